"""Looks whether a thing is a CHANGE PAPER (point 26)."""

from partkits.changes import changes_in, is_changed
from partkits.dealings import serves
from partkits.errors import NoPaper
from partkits.kinds import is_shades, is_word
from partkits.places import over_at


def is_set(thing):
    """True where thing is (form, shades), shades a rising tuple of one SHADE at least."""
    if not isinstance(thing, tuple) or len(thing) != 2 or not is_word(thing[0]):
        return False
    return is_shades(thing[1]) and len(thing[1]) > 0


def wrong_set(sets):
    """The place of the first that is no such pair, or its FORM isn't above that ahead; None where all are right."""
    for at, thing in enumerate(sets):
        if not is_set(thing) or (at > 0 and thing[0] <= sets[at - 1][0]):
            return at
    return None


def lets_changed(heap, wants, thing):
    """The CHANGES where thing is a CHANGE PAPER of the HEAP and the WANTS; refused with NoPaper."""
    if not isinstance(thing, tuple) or len(thing) != 2 or not all([isinstance(half, tuple) for half in thing]):
        raise NoPaper("shape", -1)
    given, sets = thing
    if not is_changed(wants, given):
        raise NoPaper("given", -1)
    if not serves(heap, wants, given):
        raise NoPaper("serves", -1)
    at = wrong_set(sets)
    if at is not None:
        raise NoPaper("set", at)
    changes = changes_in(wants, given)
    if sum([over_at(heap, wants, form, shades) for form, shades in sets]) != changes:
        raise NoPaper("many", -1)
    return changes
