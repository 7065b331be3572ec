"""What WANTS want of a FORM of some SHADES alone, and what a HEAP has of these (points 3, 4 and 26)."""


def lets_shade(shades, shade):
    """True where a WANT of these shades lets the SHADE."""
    return len(shades) == 0 or shade in shades


def is_within(own, shades):
    """True where a WANT of own shades wants some, all of them among shades; of None always."""
    if shades is None:
        return True
    # () lets any SHADE, so it is never among some
    return len(own) > 0 and all([shade in shades for shade in own])


def wanted_at(wants, form, shades):
    """How many the WANTS of the FORM want in all that are within the shades."""
    return sum([many for named, own, many in wants if named == form and is_within(own, shades)])


def held_at(heap, form, shades):
    """How many PARTS of the FORM the HEAP has of these SHADES; of None all of the FORM."""
    if shades is None:
        return heap.many(form)
    return sum([heap.many(form, shade) for shade in shades])


def over_at(heap, wants, form, shades):
    """How many more are wanted there than the HEAP has; below nought where it has more."""
    return wanted_at(wants, form, shades) - held_at(heap, form, shades)
