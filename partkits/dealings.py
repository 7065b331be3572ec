"""Looks at GIVENS and DEALINGS, and what is given in them (points 3 and 22)."""

from partkits.heaps import Heap
from partkits.kinds import is_many, is_number, is_word
from partkits.places import lets_shade
from partkits.sheets import wants_of


def is_gift_row(thing):
    """True where thing is (shade, many)."""
    return isinstance(thing, tuple) and len(thing) == 2 and is_word(thing[0]) and is_many(thing[1])


def is_gift(thing, wanted):
    """True where thing is a rising tuple of (shade, many), each SHADE once, so many together as wanted."""
    if not isinstance(thing, tuple) or not all([is_gift_row(row) for row in thing]):
        return False
    rising = all([ahead[0] < behind[0] for ahead, behind in zip(thing, thing[1:])])
    return rising and sum([many for shade, many in thing]) == wanted


def is_gifts(wants, thing):
    """True where thing is a tuple with a GIFT for each of the WANTS, of whatever SHADES."""
    if not isinstance(thing, tuple) or len(thing) != len(wants):
        return False
    return all([is_gift(gift, many) for gift, (form, shades, many) in zip(thing, wants)])


def is_given(wants, thing):
    """True where thing is a GIVEN of the WANTS."""
    if not is_gifts(wants, thing):
        return False
    return all([lets_shade(want[1], shade) for want, gift in zip(wants, thing) for shade, many in gift])


def given_sum(wants, given):
    """The HEAP of all PARTS that are given."""
    return Heap(tuple([(want[0], shade, many) for want, gift in zip(wants, given) for shade, many in gift]))


def serves(heap, wants, given):
    """True where of each PART no more is given than the HEAP has."""
    return heap.holds(given_sum(wants, given))


def is_served(heap, wants, thing):
    """True where thing is a GIVEN of the WANTS that the HEAP SERVES."""
    return is_given(wants, thing) and serves(heap, wants, thing)


def is_choice(sheet, thing):
    """True where thing is a CHOICE of the SHEET."""
    if not isinstance(thing, tuple) or len(thing) != len(sheet):
        return False
    return all([is_number(place) and 0 <= place < len(row) for place, row in zip(thing, sheet)])


def is_dealing(heap, sheet, thing):
    """True where thing is a DEALING of the HEAP to the SHEET."""
    if not isinstance(thing, tuple) or len(thing) != 2 or not is_choice(sheet, thing[0]):
        return False
    return is_served(heap, wants_of(sheet, thing[0]), thing[1])
