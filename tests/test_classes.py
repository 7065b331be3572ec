"""Point 54: the MARKS of PARTS, and HEAPS that are ALIKE by a VOCABULARY."""

import copy
import itertools
import unittest

from partkits.cases import build
from partkits.classes import is_alike, marks_of
from partkits.heaps import Heap
from tests.class_support import (FORTY, HEAP, SIX, VOCABULARY, is_built, marks_counted, moved, small_sheets_of,
                                 small_vocabularies, some_vocabulary)
from tests.kit_support import heap_of
from tests.paper_support import small_heaps
from tests.support import LARGEST, chances, counted, made_odd, some_rows


class Marks(unittest.TestCase):
    def test_ordinary(self):
        for form, shade, told in (("brick", "red", (0, 1, 2)), ("brick", "blue", (0, 1)), ("brick", "lime", (0,)),
                                  ("plate", "lime", (3,)), ("plate", "red", ()), ("wheel", "x", (4,)),
                                  ("wheel", "red", (4,)), ("tile", "red", ()), ("red", "brick", ())):
            self.assertEqual(marks_of(VOCABULARY, form, shade), told)
        self.assertEqual(marks_of(shade="red", form="brick", vocabulary=VOCABULARY), (0, 1, 2))
        self.assertEqual(marks_of(VOCABULARY[1:], "brick", "red"), (0, 1))

    def test_no_entry(self):
        self.assertEqual(marks_of((), "brick", "red"), ())

    def test_six_entries_a_form(self):
        for shade, told in (("r", (0, 1, 2, 3)), ("s", (0, 2, 3, 4)), ("t", (0, 3, 4, 5)), ("u", (0, 4)), ("v", (0, 5)),
                            ("w", (0,))):
            self.assertEqual(marks_of(SIX, "a", shade), told)
            self.assertEqual(marks_of(SIX[1:], "a", shade), tuple(at - 1 for at in told[1:]))
            self.assertEqual(marks_of(SIX, "b", shade), ())
            both = SIX + tuple(("b", shades) for form, shades in SIX)
            self.assertEqual(marks_of(both, "b", shade), tuple(at + 6 for at in told))

    def test_new_and_nothing_is_changed(self):
        vocabulary = copy.deepcopy(VOCABULARY)
        one, other = marks_of(vocabulary, "brick", "red"), marks_of(vocabulary, "brick", "red")
        self.assertIs(type(one), tuple)
        self.assertEqual({type(at) for at in one}, {int})
        self.assertIsNot(one, other)
        self.assertEqual(vocabulary, VOCABULARY)
        self.assertEqual(marks_of(made_odd(VOCABULARY), "brick", "red"), (0, 1, 2))


class Alike(unittest.TestCase):
    def either_way(self, vocabulary, one, other):
        """What is told, the same either way about."""
        told = is_alike(vocabulary, one, other)
        self.assertIs(type(told), bool)
        self.assertIs(is_alike(vocabulary, other, one), told)
        return told

    def test_ordinary(self):
        self.assertIs(is_alike(VOCABULARY, HEAP, Heap(HEAP.rows()[::-1])), True)
        self.assertIs(is_alike(other=HEAP, one=HEAP, vocabulary=VOCABULARY), True)
        self.assertIs(is_alike(other=HEAP, one=Heap(), vocabulary=VOCABULARY), False)

    def test_with_one_part_more(self):
        for form, shade in (("brick", "red"), ("brick", "lime"), ("plate", "lime"), ("wheel", "q")):
            self.assertIs(self.either_way(VOCABULARY, HEAP, HEAP.plus(Heap(((form, shade, 1),)))), False)

    def test_with_parts_that_no_entry_lets(self):
        for form, shade in (("plate", "red"), ("tile", "red"), ("door", "lime")):
            self.assertIs(self.either_way(VOCABULARY, HEAP, HEAP.plus(Heap(((form, shade, LARGEST),)))), True)
        self.assertIs(self.either_way((), HEAP, Heap()), True)
        self.assertIs(self.either_way((("door", ()), ("door", ("red",))), HEAP, Heap()), True)

    def test_some_moved_to_another_shade(self):
        for form, shade, other, told in (("brick", "red", "blue", False), ("brick", "blue", "red", False),
                                         ("brick", "lime", "white", True), ("brick", "red", "lime", False),
                                         ("wheel", "x", "lime", True), ("wheel", "x", "q", True),
                                         ("plate", "lime", "red", False), ("tile", "red", "blue", True)):
            self.assertIs(self.either_way(VOCABULARY, HEAP, moved(HEAP, form, shade, other)), told)

    def test_to_another_form_of_the_same_shades(self):
        vocabulary = (("a", ()), ("b", ()))
        self.assertIs(self.either_way(vocabulary, heap_of(r=2), heap_of("b", r=2)), False)
        self.assertIs(self.either_way(vocabulary, heap_of(r=2), heap_of(s=2)), True)

    def test_as_many_for_each_entry_but_not_for_both(self):
        """Each entry lets as many of both, yet the one HEAP has them by two PARTS, the other one by one."""
        vocabulary = (("a", ("r", "s")), ("a", ("s", "t")))
        self.assertIs(self.either_way(vocabulary, heap_of(r=1, t=1), heap_of(s=1)), False)
        self.assertIs(self.either_way(vocabulary, heap_of(r=1, t=1), heap_of(s=1, q=1)), False)
        self.assertIs(self.either_way(vocabulary, heap_of(s=1, q=1), heap_of(s=1)), True)

    def test_no_parts(self):
        for vocabulary in ((), VOCABULARY, SIX):
            self.assertIs(self.either_way(vocabulary, Heap(), Heap()), True)

    def test_forty_parts_and_large_counts(self):
        heap = heap_of(**{shade: LARGEST for shade in FORTY})
        for vocabulary in ((("a", ()),), (("a", ()), ("a", FORTY[:6])), (("a", FORTY[:6]), ("a", FORTY[3:9]))):
            self.assertIs(self.either_way(vocabulary, heap, moved(heap, "a", "as", "at", LARGEST - 1)), True)
            self.assertIs(self.either_way(vocabulary, heap, moved(heap, "a", "as", "ew")), len(vocabulary) == 1)
            self.assertIs(self.either_way(vocabulary, heap, heap.less(heap_of(at=1))), False)

    def test_nothing_is_changed(self):
        one, other, vocabulary = Heap(HEAP.rows()), Heap(), copy.deepcopy(VOCABULARY)
        for again in range(2):
            self.assertIs(is_alike(vocabulary, one, other), False)
            self.assertIs(is_alike(made_odd(vocabulary), one, HEAP), True)
        self.assertEqual((one, other, vocabulary), (HEAP, Heap(), VOCABULARY))

    def test_just_where_of_each_marks_both_have_as_many(self):
        seen = set()
        heaps = list(small_heaps(("a",), ("r", "s", "t"), 2))
        for vocabulary, one, other in itertools.product(small_vocabularies(), heaps, heaps):
            told = is_alike(vocabulary, one, other)
            self.assertIs(told, marks_counted(vocabulary, one) == marks_counted(vocabulary, other))
            seen.add((len(vocabulary), told))
        self.assertTrue({(size, told) for size in range(1, 5) for told in (True, False)} <= seen)

    def test_small_sheets_are_built_of_both_or_of_none(self):
        """All small SHEETS: where they are told ALIKE each is built of both or of none, else one of them is not."""
        heaps = list(small_heaps(("a",), ("r", "s", "t"), 1)) + [heap_of(r=2), heap_of(s=2, t=1), heap_of(t=2)]
        for vocabulary in small_vocabularies(("r", "s", "t"))[::7] + small_vocabularies():
            sheets = small_sheets_of(vocabulary, (1, 2), 3)
            built = {}
            for at, heap in enumerate(heaps):
                counts = counted(heap.rows())
                built[at] = [is_built(counts, wants) for wants in sheets]
            for one, other in itertools.combinations(range(len(heaps)), 2):
                self.assertIs(is_alike(vocabulary, heaps[one], heaps[other]), built[one] == built[other],
                              (vocabulary, heaps[one], heaps[other]))

    def test_sheets_of_several_ways_too(self):
        alike = 0
        for chance in chances(300):
            vocabulary = some_vocabulary(chance)
            one = Heap(some_rows(chance, most=4, many=2))
            other = moved(one, *one.rows()[0][:2], "white") if one and chance.randint(0, 1) else one
            self.assertIs(is_alike(vocabulary, one, other),
                          marks_counted(vocabulary, one) == marks_counted(vocabulary, other))
            if is_alike(vocabulary, one, other) and vocabulary:
                alike += one != other
                for again in range(10):
                    sheet = tuple(tuple(tuple(chance.choice(vocabulary) + (chance.randint(1, 2),)
                                              for want in range(chance.randint(0, 2))) for way in range(2))
                                  for row in range(chance.randint(1, 2)))
                    self.assertEqual(build(one, sheet)[0], build(other, sheet)[0])
        self.assertGreater(alike, 10)


if __name__ == "__main__":
    unittest.main()
