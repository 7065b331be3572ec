"""Points 55 and 57: a PARTING of two HEAPS that aren't ALIKE."""

import copy
import itertools
import unittest

from partkits.apart import parting
from partkits.apartchecker import lets_parting
from partkits.barchecker import lets_bar
from partkits.classes import is_alike
from partkits.dealings import is_dealing
from partkits.heaps import Heap
from partkits.sheets import is_plain, is_sheet, wants_of
from tests.class_support import (FORTY, HEAP, SIX, VOCABULARY, marks_counted, moved, small_vocabularies, some_vocabulary)
from tests.kit_support import heap_of
from tests.paper_support import small_heaps
from tests.support import LARGEST, all_just_tuples, builds, chances, made_odd, shares_a_tuple, some_rows


class Parting(unittest.TestCase):
    def told(self, vocabulary, one, other):
        """The side of the PARTING that is told, all of it looked at closely; None where they are ALIKE."""
        paper = parting(vocabulary, one, other)
        if paper is None:
            self.assertIs(is_alike(vocabulary, one, other), True)
            self.assertEqual(marks_counted(vocabulary, one), marks_counted(vocabulary, other))
            return None
        self.assertIs(type(paper), tuple)
        self.assertTrue(all_just_tuples(paper))
        side, sheet, dealing, bar = paper
        self.assertIs(type(side), int)
        self.assertIn(side, (0, 1))
        self.assertTrue(is_sheet(sheet) and is_plain(sheet))
        self.assertTrue(all((form, shades) in vocabulary for form, shades, many in wants_of(sheet)))
        heaps = (one, other) if side == 0 else (other, one)
        self.assertIs(is_dealing(heaps[0], sheet, dealing), True)
        self.assertIs(lets_bar(heaps[1], wants_of(sheet), bar), True)
        self.assertIs(lets_parting(vocabulary, one, other, paper), True)
        self.assertIs(is_alike(vocabulary, one, other), False)
        return side

    def either_way(self, vocabulary, one, other):
        """What is told, either way about: None both times, or a PARTING."""
        told, turned = self.told(vocabulary, one, other), self.told(vocabulary, other, one)
        self.assertIs(told is None, turned is None)
        return told

    def test_ordinary(self):
        more = HEAP.plus(Heap((("brick", "red", 1),)))
        self.assertEqual(self.told(VOCABULARY, more, HEAP), 0)
        self.assertEqual(self.told(VOCABULARY, HEAP, more), 1)
        self.assertEqual(parting(other=HEAP, one=more, vocabulary=VOCABULARY)[0], 0)
        self.assertIsNone(parting(VOCABULARY, HEAP, Heap(HEAP.rows()[::-1])))

    def test_of_one_form(self):
        paper = parting((("a", ("r",)),), heap_of(r=2), heap_of(r=1, s=5))
        self.assertEqual(paper, (0, (((("a", ("r",), 2),),),), ((0,), ((("r", 2),),)), ("a", ("r",))))
        paper = parting((("a", ()),), heap_of(r=2), heap_of(r=1, s=5))
        self.assertEqual(paper, (1, (((("a", (), 6),),),), ((0,), ((("r", 1), ("s", 5)),)), ("a", None)))

    def test_parts_that_no_entry_lets(self):
        for form, shade in (("plate", "red"), ("tile", "red"), ("door", "lime")):
            self.assertIsNone(self.either_way(VOCABULARY, HEAP, HEAP.plus(Heap(((form, shade, LARGEST),)))))
        self.assertIsNone(self.either_way((), HEAP, Heap()))

    def test_some_moved_to_another_shade(self):
        for form, shade, other, alike in (("brick", "red", "blue", False), ("brick", "blue", "red", False),
                                          ("brick", "lime", "white", True), ("brick", "red", "lime", False),
                                          ("wheel", "x", "lime", True), ("plate", "lime", "red", False)):
            self.assertIs(self.either_way(VOCABULARY, HEAP, moved(HEAP, form, shade, other)) is None, alike)

    def test_as_many_for_each_entry_but_not_for_both(self):
        vocabulary = (("a", ("r", "s")), ("a", ("s", "t")))
        self.assertEqual(self.told(vocabulary, heap_of(r=1, t=1), heap_of(s=1)), 0)
        self.assertEqual(self.told(vocabulary, heap_of(s=1), heap_of(r=1, t=1)), 1)
        # all that some entry lets are as many here, so that some of the entries alone part them
        self.assertIsNotNone(self.either_way(vocabulary, heap_of(r=1, t=1), heap_of(s=2)))
        self.assertIsNotNone(self.either_way((("a", ()),) + vocabulary, heap_of(r=1, t=1), heap_of(s=1, q=1)))
        self.assertIsNotNone(self.either_way((("a", ()),) + vocabulary, heap_of(r=1, q=1), heap_of(t=1, q=1)))

    def test_entries_of_several_forms(self):
        vocabulary = (("a", ("r",)), ("b", ()), ("b", ("r", "s")), ("c", ("r",)))
        for more in (("a", "r", 1), ("b", "t", 1), ("b", "s", 2), ("c", "r", LARGEST)):
            heap = Heap((("a", "r", 3), ("b", "r", 2), ("c", "s", 1)))
            self.assertEqual(self.told(vocabulary, heap, heap.plus(Heap((more,)))), 1)
        self.assertIsNotNone(self.either_way(vocabulary, heap_of(r=1), heap_of("b", r=1)))

    def test_no_parts(self):
        self.assertIsNone(parting(VOCABULARY, Heap(), Heap()))
        self.assertEqual(self.told(VOCABULARY, HEAP, Heap()), 0)
        self.assertEqual(self.told(VOCABULARY, Heap(), HEAP), 1)
        self.assertIsNone(parting((), Heap(), HEAP))

    def test_six_entries_a_form(self):
        for chance in chances(150):
            one, other = [heap_of(**{shade: chance.randint(0, 2) for shade in "rstuvw"}) for at in range(2)]
            for vocabulary in (SIX, SIX[1:], SIX[2:], SIX + tuple(("b", shades) for form, shades in SIX)):
                self.either_way(vocabulary, one, other)

    def test_each_two_classes_of_six_entries(self):
        """As many in all, each two MARKS exchanged."""
        for one, other in itertools.permutations("rstuvw", 2):
            heap = heap_of(**{shade: 2 for shade in "rstuvw"})
            self.assertIsNotNone(self.either_way(SIX, heap, moved(heap, "a", one, other)))

    def test_forty_parts_and_large_counts(self):
        heap = heap_of(**{shade: LARGEST for shade in FORTY})
        for vocabulary in ((("a", ()),), (("a", ()), ("a", FORTY[:6])), (("a", FORTY[:6]), ("a", FORTY[3:9]))):
            self.assertIsNone(self.either_way(vocabulary, heap, moved(heap, "a", "as", "at", LARGEST - 1)))
            self.assertIs(self.either_way(vocabulary, heap, moved(heap, "a", "as", "ew")) is None, len(vocabulary) == 1)
            self.assertEqual(self.told(vocabulary, heap, heap.less(heap_of(at=1))), 0)
            self.assertEqual(self.told(vocabulary, Heap(), heap), 1)

    def test_small_cases_gone_through_wholly(self):
        """None just where they are ALIKE; else a SHEET that one builds and the other one doesn't, all tried."""
        seen = set()
        heaps = list(small_heaps(("a",), ("r", "s", "t"), 1)) + [heap_of(r=2), heap_of(s=2, t=1), heap_of(t=2)]
        for vocabulary in small_vocabularies(("r", "s", "t"))[::5]:
            for one, other in itertools.product(heaps, heaps):
                side = self.told(vocabulary, one, other)
                self.assertIs(side is None, marks_counted(vocabulary, one) == marks_counted(vocabulary, other))
                if side is not None:
                    sheet = parting(vocabulary, one, other)[1]
                    self.assertEqual((builds(one, sheet), builds(other, sheet)), (side == 0, side == 1))
                seen.add(side)
        self.assertEqual(seen, {None, 0, 1})

    def test_some_of_all_sorts(self):
        seen = set()
        for chance in chances(400):
            vocabulary = some_vocabulary(chance)
            one, other = Heap(some_rows(chance, most=5)), Heap(some_rows(chance, most=5))
            if one and chance.randint(0, 1):
                other = moved(one, *one.rows()[0][:2], chance.choice(("re", "red", "blue", "white")))
            seen.add(self.either_way(vocabulary, one, other))
        self.assertEqual(seen, {None, 0, 1})

    def test_new_and_nothing_is_changed(self):
        for vocabulary in (VOCABULARY, made_odd(VOCABULARY)):
            kept, one, other = copy.deepcopy(vocabulary), Heap(HEAP.rows()), moved(HEAP, "brick", "red", "blue")
            first, again = parting(vocabulary, one, other), parting(vocabulary, one, other)
            self.assertFalse(shares_a_tuple(first, again))
            self.assertFalse(shares_a_tuple(first, vocabulary))
            self.assertTrue(all_just_tuples(first))
            self.assertEqual((vocabulary, one, other), (kept, HEAP, moved(HEAP, "brick", "red", "blue")))


if __name__ == "__main__":
    unittest.main()
