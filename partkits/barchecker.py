"""Looks whether a thing is a BAR (points 4 and 23)."""

from partkits.errors import NoPaper
from partkits.kinds import is_word
from partkits.places import over_at


def is_bar_shaped(thing):
    """True where thing is a tuple of two, a WORD first, None or a tuple of one thing at least second."""
    if not isinstance(thing, tuple) or len(thing) != 2 or not is_word(thing[0]):
        return False
    return thing[1] is None or (isinstance(thing[1], tuple) and len(thing[1]) > 0)


def wrong_shade(shades):
    """The place of the first that is no WORD, or isn't above the one ahead; None where all are right."""
    for at, shade in enumerate(shades):
        if not is_word(shade) or (at > 0 and shade <= shades[at - 1]):
            return at
    return None


def lets_bar(heap, wants, thing):
    """True where thing is a BAR of the HEAP and the WANTS; refused with NoPaper."""
    if not is_bar_shaped(thing):
        raise NoPaper("shape", -1)
    form, shades = thing
    at = None if shades is None else wrong_shade(shades)
    if at is not None:
        raise NoPaper("shade", at)
    if over_at(heap, wants, form, shades) <= 0:
        raise NoPaper("more", -1)
    return True


def is_bar(heap, wants, thing):
    """True where thing is a BAR of the HEAP and the WANTS, else False."""
    try:
        return lets_bar(heap, wants, thing)
    except NoPaper:
        return False
