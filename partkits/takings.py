"""Which WAYS of a SHEET are TAKEN: for each ROW the place of its WAY, or None (point 35)."""

from partkits.kinds import is_number
from partkits.replacing import replaced


def taken_first(sheet):
    """What is TAKEN from the beginning on: the WAY of each ROW of one WAY."""
    return tuple([0 if len(row) == 1 else None for row in sheet])


def taken_with(taken, row, way):
    """What is TAKEN where of this ROW this WAY is, too."""
    return replaced(taken, row, way)


def is_open_row(taken, thing):
    """True where thing is the place of a ROW of which no WAY is TAKEN yet."""
    return is_number(thing) and 0 <= thing < len(taken) and taken[thing] is None


def taken_wants(sheet, taken):
    """The WANTS of all WAYS TAKEN, ROW by ROW."""
    return tuple([want for row, place in zip(sheet, taken) if place is not None for want in row[place]])
