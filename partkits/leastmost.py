"""How many of a PART are given at least and at most (points 28 and 29)."""

from partkits.dealing import deal
from partkits.errors import NoDealing
from partkits.leading import led
from partkits.places import over_at
from partkits.spans import heap_with, most_given


def least_most(heap, wants, form, shade):
    """(least, most) of this PART in the GIVENS that the HEAP SERVES; refused with NoDealing."""
    word, told = deal(heap, wants)
    if word == "bar":
        raise NoDealing(told)
    return (least_given(heap, wants, form, shade), most_given(heap, wants, form, shade))


def least_given(heap, wants, form, shade):
    """The least of this PART with which the HEAP, that SERVES some GIVEN, would still SERVE one."""
    without = heap_with(heap, form, shade, 0)
    # what lacks without the PART has to be made up for by it, where most of it lacks
    places = led(without, wants).sets() + ((form, None),)
    return max([0] + [over_at(without, wants, own, shades) for own, shades in places])
