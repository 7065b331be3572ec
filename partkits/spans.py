"""What is given of one PART, and HEAPS with another many of it (points 29 and 30)."""

from partkits.dealings import given_sum
from partkits.heaps import Heap
from partkits.places import lets_shade


def heap_with(heap, form, shade, many):
    """The HEAP that has just so many of this PART, and all else as it is."""
    others = [row for row in heap.rows() if row[:2] != (form, shade)]
    own = [(form, shade, many)] if many > 0 else []
    return Heap(tuple(others + own))


def many_given(wants, given, form, shade):
    """How many of this PART are given."""
    return given_sum(wants, given).many(form, shade)


def most_given(heap, wants, form, shade):
    """The lesser of what the HEAP has of this PART and of all that the WANTS want that let it."""
    wanted = sum([many for own, shades, many in wants if own == form and lets_shade(shades, shade)])
    return min([heap.many(form, shade), wanted])
