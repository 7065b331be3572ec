"""A GIVEN that a HEAP SERVES, or what bars it (point 24)."""

from partkits.leading import led, short_form


def deal(heap, wants):
    """("dealt", given), given a GIVEN of the WANTS that the HEAP SERVES, or ("bar", bar) where there is none."""
    leading = led(heap, wants)
    sets = leading.sets()
    if len(sets) > 0:
        return ("bar", sets[0])
    form = short_form(heap, wants)
    if form is not None:
        return ("bar", (form, None))
    leading.fill()
    return ("dealt", leading.given())
