"""PARTS that the same entries of a VOCABULARY let, and HEAPS that are ALIKE by it (point 54)."""

from partkits.places import lets_shade


def marks_of(vocabulary, form, shade):
    """The MARKS of this PART: the places of the entries of its FORM that let its SHADE, a rising tuple."""
    return tuple([at for at, (own, shades) in enumerate(vocabulary) if own == form and lets_shade(shades, shade)])


def marked(vocabulary, heap):
    """A dict from MARKS to how many PARTS of the HEAP have just these; without those that no entry lets."""
    counts = {}
    for form, shade, many in heap.rows():
        marks = marks_of(vocabulary, form, shade)
        if marks != ():
            counts[marks] = counts.get(marks, 0) + many
    return counts


def is_alike(vocabulary, one, other):
    """True where each SHEET OF the VOCABULARY is built by both HEAPS or by none."""
    # entries have one FORM each, so PARTS of the same MARKS but () are of one FORM
    return marked(vocabulary, one) == marked(vocabulary, other)
