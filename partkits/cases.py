"""A DEALING of a HEAP to a SHEET, or a CASE TREE that shows that there is none (points 35 and 37)."""

from partkits.dealing import deal
from partkits.takings import taken_first, taken_wants, taken_with


def build(heap, sheet):
    """("dealt", dealing) where the HEAP BUILDS the SHEET, else ("cases", tree)."""
    return sought(heap, sheet, taken_first(sheet))


def sought(heap, sheet, taken):
    """What build tells of the CHOICES that have what is TAKEN."""
    word, told = deal(heap, taken_wants(sheet, taken))
    if word == "bar":
        # what bars the WANTS TAKEN so far bars every CHOICE below
        return ("cases", ("bar", told[0], told[1]))
    if None not in taken:
        return ("dealt", (taken, told))
    return sought_below(heap, sheet, taken, taken.index(None))


def sought_below(heap, sheet, taken, row):
    """What build tells of the CHOICES that have what is TAKEN, WAY by WAY of this ROW."""
    nodes = []
    for way in range(len(sheet[row])):
        word, told = sought(heap, sheet, taken_with(taken, row, way))
        if word == "dealt":
            return (word, told)
        nodes.append(told)
    return ("cases", ("row", row, *nodes))
