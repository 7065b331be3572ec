"""What tests of VOCABULARIES need: VOCABULARIES of every sort, MARKS counted out, and small SHEETS OF them."""

import itertools

from partkits.heaps import Heap
from tests.paper_support import subsets
from tests.support import serves_some

VOCABULARY = (("brick", ()), ("brick", ("blue", "red")), ("brick", ("red",)), ("plate", ("lime",)), ("wheel", ()))
HEAP = Heap((("brick", "blue", 2), ("brick", "red", 3), ("brick", "lime", 1), ("plate", "lime", 2), ("wheel", "x", 4),
             ("tile", "red", 5)))
SIX = (("a", ()), ("a", ("r",)), ("a", ("r", "s")), ("a", ("r", "s", "t")), ("a", ("s", "t", "u")), ("a", ("t", "v")))
FORTY = tuple(x + y for x in "abcde" for y in "stuvwxyz")


def small_vocabularies(shades=("r", "s"), form="a"):
    """All VOCABULARIES of one FORM and these SHADES."""
    entries = sorted((form, some) for some in subsets(shades))
    return subsets(entries)


def marks_counted(vocabulary, heap):
    """How many PARTS of the HEAP have which FORM and MARKS, counted out."""
    told = {}
    for form, shade, many in heap.rows():
        marks = [at for at, (own, shades) in enumerate(vocabulary) if own == form and (not shades or shade in shades)]
        if marks:
            key = form, tuple(marks)
            told[key] = told.get(key, 0) + many
    return told


def small_sheets_of(vocabulary, manys, most):
    """WANTS of all small PLAIN SHEETS OF the VOCABULARY."""
    single = [entry + (many,) for entry in vocabulary for many in manys]
    return [wants for size in range(most + 1) for wants in itertools.combinations_with_replacement(single, size)]


def is_built(counts, wants):
    """Whether PARTS so counted are enough for the WANTS."""
    return serves_some(counts, tuple(wants))


def some_vocabulary(chance, most=6):
    """A VOCABULARY of two FORMS and few SHADES."""
    entries = {(chance.choice(("a", "ab")), tuple(sorted(chance.sample(("red", "re", "blue"), chance.randint(0, 3)))))
               for at in range(chance.randint(0, most))}
    return tuple(sorted(entries))


def moved(heap, form, shade, other, many=1):
    """The HEAP with so many of a PART moved to another SHADE."""
    return heap.less(Heap(((form, shade, many),))).plus(Heap(((form, other, many),)))
