"""A DEALING of a HEAP to a SHEET, or a CASE TREE that shows that there is none (points 35 and 37)."""

from partkits.dealing import deal
from partkits.places import wanted_at
from partkits.takings import taken_first, taken_wants, taken_with


def build(heap, sheet):
    """("dealt", dealing) where the HEAP BUILDS the SHEET, else ("cases", tree)."""
    word, told, rows = sought(heap, sheet, taken_first(sheet))
    return (word, told)


def sought(heap, sheet, taken):
    """What build tells of the CHOICES that have what is TAKEN, and the places of the ROWS on which a tree rests."""
    word, told = deal(heap, taken_wants(sheet, taken))
    if word == "bar":
        # what bars the WANTS TAKEN so far bars every CHOICE below
        return ("cases", ("bar", told[0], told[1]), rows_wanting(sheet, taken, told))
    if None not in taken:
        return ("dealt", (taken, told), [])
    return sought_below(heap, sheet, taken, taken.index(None))


def rows_wanting(sheet, taken, bar):
    """The places of the ROWS of which the WAYS TAKEN want some of what the BAR counts."""
    form, shades = bar
    ways = [(at, sheet[at][place]) for at, place in enumerate(taken) if place is not None]
    return [at for at, way in ways if wanted_at(way, form, shades) > 0]


def sought_below(heap, sheet, taken, row):
    """What sought tells, WAY by WAY of this ROW, of which none is TAKEN yet."""
    nodes = []
    rested = []
    for way in range(len(sheet[row])):
        word, told, rows = sought(heap, sheet, taken_with(taken, row, way))
        if word == "dealt" or row not in rows:
            # a tree that doesn't rest on this ROW bars its other WAYS, too
            return (word, told, rows)
        nodes.append(told)
        rested.extend(rows)
    return ("cases", ("row", row, *nodes), sorted(set(rested)))
