"""Looks whether a thing is a SPAN PAPER (point 30)."""

from partkits.barchecker import is_bar
from partkits.dealings import is_served
from partkits.errors import NoPaper
from partkits.spans import heap_with, many_given, most_given


def shows_least(heap, wants, form, shade, least, bar):
    """True where bar shows that no fewer than least of this PART are given: just () where that is 0, else a BAR."""
    if least == 0:
        return bar == ()
    return is_bar(heap_with(heap, form, shade, least - 1), wants, bar)


def lets_least_most(heap, wants, form, shade, thing):
    """(least, most), as the thing shows it where it is a SPAN PAPER; refused with NoPaper."""
    if not isinstance(thing, tuple) or len(thing) != 3:
        raise NoPaper("shape", -1)
    fewest, greatest, bar = thing
    if not is_served(heap, wants, fewest):
        raise NoPaper("fewest", -1)
    if not is_served(heap, wants, greatest):
        raise NoPaper("greatest", -1)
    least = many_given(wants, fewest, form, shade)
    if not shows_least(heap, wants, form, shade, least, bar):
        raise NoPaper("bar", -1)
    most = many_given(wants, greatest, form, shade)
    if most != most_given(heap, wants, form, shade):
        raise NoPaper("most", -1)
    return (least, most)
