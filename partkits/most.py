"""The SHEET of some THINGS, and the most of them AT ONCE (point 39)."""

from partkits.atonce import most_found
from partkits.sheets import copied_sheet
from partkits.standings import rows_of


def sheet_of(things, places):
    """The SHEET of the THINGS at these places."""
    return copied_sheet(rows_of(things, places))


def most(heap, things):
    """(places, dealing): of as many THINGS as can be built AT ONCE, and a DEALING of the HEAP to their SHEET."""
    places, dealing, tree = most_found(heap, things)
    return (places, dealing)
