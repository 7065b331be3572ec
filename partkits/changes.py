"""CHANGED GIVENS, and the fewest PARTS of another SHADE (points 25 and 27)."""

from partkits.dealings import is_gifts
from partkits.errors import NoDealing
from partkits.leading import led, short_form
from partkits.places import lets_shade


def is_changed(wants, thing):
    """True where thing is a CHANGED GIVEN of the WANTS."""
    return is_gifts(wants, thing)


def changes_in(wants, given):
    """The CHANGES of a CHANGED GIVEN of the WANTS."""
    return sum([many for want, gift in zip(wants, given) for shade, many in gift if not lets_shade(want[1], shade)])


def changed(heap, wants):
    """(changes, given, sets): a CHANGE PAPER (given, sets) and its CHANGES; refused with NoDealing."""
    form = short_form(heap, wants)
    if form is not None:
        raise NoDealing((form, None))
    leading = led(heap, wants)
    sets = leading.sets()
    leading.fill()
    given = leading.given()
    return (changes_in(wants, given), given, sets)
