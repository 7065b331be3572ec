"""HEAPS and SHEETS with their FORMS and SHADES called otherwise (point 19)."""

from partkits.heaps import Heap


def newer_words(pairs):
    """A dict from the elder WORDS of the PAIRS to the newer ones."""
    return {} if pairs is None else {elder: newer for elder, newer in pairs}


def renamed(heap, forms=None, shades=None):
    """The HEAP with its FORMS and its SHADES called as the PAIRS tell."""
    newer_forms = newer_words(forms)
    newer_shades = newer_words(shades)
    rows = [(newer_forms.get(form, form), newer_shades.get(shade, shade), many) for form, shade, many in heap.rows()]
    return Heap(tuple(rows))


def sheet_renamed(sheet, forms=None, shades=None):
    """The SHEET with its FORMS and its SHADES called as the PAIRS tell."""
    newer_forms = newer_words(forms)
    newer_shades = newer_words(shades)
    return tuple([tuple([way_renamed(way, newer_forms, newer_shades) for way in row]) for row in sheet])


def way_renamed(way, newer_forms, newer_shades):
    """The WAY with its FORMS and SHADES called otherwise, the SHADES of each WANT rising, each once."""
    told = []
    for form, shades, many in way:
        called = tuple(sorted({newer_shades.get(shade, shade) for shade in shades}))
        told.append((newer_forms.get(form, form), called, many))
    return tuple(told)
