"""Looks whether a thing is a PARTING (points 55 and 56)."""

from partkits.barchecker import is_bar
from partkits.dealings import is_dealing
from partkits.errors import NoPaper
from partkits.kinds import is_number
from partkits.sheets import is_plain, is_sheet, wants_of


def is_side(thing):
    """True where thing is 0 or 1."""
    return is_number(thing) and 0 <= thing <= 1


def is_plain_of(vocabulary, thing):
    """True where thing is a PLAIN SHEET OF the VOCABULARY."""
    if not is_sheet(thing) or not is_plain(thing):
        return False
    return all([(form, shades) in vocabulary for form, shades, many in wants_of(thing)])


def lets_parting(vocabulary, one, other, thing):
    """True where thing is a PARTING of the VOCABULARY and the two HEAPS; refused with NoPaper."""
    if not isinstance(thing, tuple) or len(thing) != 4 or not is_side(thing[0]):
        raise NoPaper("shape", -1)
    side, sheet, dealing, bar = thing
    if not is_plain_of(vocabulary, sheet):
        raise NoPaper("sheet", -1)
    builder, barred = (one, other) if side == 0 else (other, one)
    if not is_dealing(builder, sheet, dealing):
        raise NoPaper("dealing", -1)
    if not is_bar(barred, wants_of(sheet), bar):
        raise NoPaper("bar", -1)
    return True
