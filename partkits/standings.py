"""How THINGS stand in a tree: each one UNDECIDED, OUT, or IN, by then with what is TAKEN of it (point 40)."""

from partkits.kinds import is_number
from partkits.replacing import replaced
from partkits.takings import is_open_row, taken_first, taken_wants, taken_with

UNDECIDED = "undecided"
OUT = "out"


def rows_of(things, places):
    """The ROWS of the THINGS at these places, one thing's behind another's."""
    return tuple([row for k in places for row in things[k]])


def standing_first(things):
    """How THINGS stand at the beginning: all are UNDECIDED."""
    return (UNDECIDED,) * len(things)


def is_in(standing, thing):
    """True where thing is the place of a THING that is IN."""
    return is_number(thing) and 0 <= thing < len(standing) and isinstance(standing[thing], tuple)


def is_undecided(standing, thing):
    """True where thing is the place of an UNDECIDED THING."""
    return is_number(thing) and 0 <= thing < len(standing) and standing[thing] == UNDECIDED


def is_open_row_in(standing, k, j):
    """True where k is the place of a THING that is IN, j of a ROW of it of which no WAY is TAKEN yet."""
    return is_in(standing, k) and is_open_row(standing[k], j)


def places_in(standing):
    """The places of the THINGS that are IN, a rising tuple."""
    return tuple([k for k in range(len(standing)) if is_in(standing, k)])


def many_possible(standing):
    """How many THINGS are IN or UNDECIDED."""
    return len([own for own in standing if own != OUT])


def standing_wants(things, standing):
    """The WANTS of all WAYS TAKEN of THINGS that are IN, thing by thing."""
    return tuple([want for k in places_in(standing) for want in taken_wants(things[k], standing[k])])


def standings_of_thing(things, standing, k):
    """How they stand where the THING is IN, and where it is OUT."""
    return [replaced(standing, k, taken_first(things[k])), replaced(standing, k, OUT)]


def standings_of_row(things, standing, k, j):
    """How they stand for each WAY of ROW j of the THING, that is IN, where this WAY is TAKEN, too."""
    return [replaced(standing, k, taken_with(standing[k], j, way)) for way in range(len(things[k][j]))]
