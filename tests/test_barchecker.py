"""Points 4 and 23: BARS, and the look at them."""

import copy
import unittest

from partkits.barchecker import lets_bar
from partkits.errors import NoPaper
from partkits.heaps import Heap
from tests.paper_support import Refusals, all_givens, plain_serves, small_heaps, small_wants, subsets
from tests.support import LARGEST, NO_TUPLES, NO_WORDS, chances, counted, deep, replaced, some_rows, some_want

HEAP = Heap((("brick", "blue", 1), ("brick", "lime", 5), ("brick", "red", 2), ("plate", "red", 9)))
WANTS = (("brick", ("red",), 2), ("brick", ("blue", "red"), 2), ("plate", (), 9), ("brick", (), 3),
         ("brick", ("blue", "lime", "red"), 1))
BAR = ("brick", ("blue", "red"))


class Bars(unittest.TestCase, Refusals):
    def test_wants_of_some_shades_all_among_these(self):
        self.assertIs(lets_bar(HEAP, WANTS, BAR), True)
        self.assertIs(lets_bar(thing=BAR, wants=WANTS, heap=HEAP), True)
        self.assert_no_paper("more", -1, lets_bar, HEAP, WANTS, ("brick", ("red",)))
        self.assert_no_paper("more", -1, lets_bar, HEAP, WANTS, ("brick", ("blue",)))
        self.assert_no_paper("more", -1, lets_bar, HEAP, WANTS, ("brick", ("blue", "lime", "red")))

    def test_as_many_are_not_more(self):
        heap = HEAP.plus(Heap((("brick", "blue", 1),)))
        self.assert_no_paper("more", -1, lets_bar, heap, WANTS, BAR)
        heap = Heap((("brick", "red", 2), ("brick", "blue", 2)))
        self.assert_no_paper("more", -1, lets_bar, heap, WANTS[:2], ("brick", None))
        self.assertIs(lets_bar(heap, WANTS[:2] + (("brick", (), 1),), ("brick", None)), True)

    def test_none_is_all_wants_of_the_form_and_all_its_parts(self):
        self.assert_no_paper("more", -1, lets_bar, HEAP, WANTS, ("brick", None))
        self.assertIs(lets_bar(HEAP, WANTS + (("brick", ("lime",), 1),), ("brick", None)), True)
        self.assert_no_paper("more", -1, lets_bar, HEAP, WANTS, ("plate", None))
        self.assertIs(lets_bar(HEAP, WANTS + (("plate", ("x",), 1),), ("plate", None)), True)

    def test_wants_of_any_shade_do_not_count_among_some(self):
        wants = (("a", (), 5), ("a", ("red",), 1))
        heap = Heap((("a", "red", 1),))
        self.assert_no_paper("more", -1, lets_bar, heap, wants, ("a", ("red",)))
        self.assertIs(lets_bar(heap, wants, ("a", None)), True)
        self.assertIs(lets_bar(Heap(), wants, ("a", ("red",))), True)
        self.assert_no_paper("more", -1, lets_bar, Heap(), wants[:1], ("a", ("red",)))

    def test_shades_that_no_part_has_and_no_want_lets(self):
        self.assertIs(lets_bar(HEAP, WANTS, ("brick", ("blue", "green", "red"))), True)
        self.assertIs(lets_bar(HEAP, WANTS, ("brick", ("a", "blue", "bluea", "red", "z"))), True)
        self.assert_no_paper("more", -1, lets_bar, HEAP, WANTS, ("brick", ("green",)))

    def test_a_form_that_the_heap_has_not(self):
        wants = (("tile", ("red",), 1), ("wheel", (), 1))
        self.assertIs(lets_bar(HEAP, wants, ("tile", ("red",))), True)
        self.assertIs(lets_bar(HEAP, wants, ("tile", None)), True)
        self.assertIs(lets_bar(HEAP, wants, ("wheel", None)), True)
        self.assert_no_paper("more", -1, lets_bar, HEAP, wants, ("wheel", ("red",)))
        self.assert_no_paper("more", -1, lets_bar, HEAP, wants, ("brick", None))

    def test_other_forms_do_not_count(self):
        wants = (("a", ("red",), 1), ("b", ("red",), 5), ("a", (), 1))
        heap = Heap((("a", "red", 2), ("b", "red", 4)))
        for bar in (("a", ("red",)), ("a", None), ("c", None), ("red", None)):
            self.assert_no_paper("more", -1, lets_bar, heap, wants, bar)
        for bar in (("b", ("red",)), ("b", None)):
            self.assertIs(lets_bar(heap, wants, bar), True)

    def test_no_wants_and_a_heap_of_none(self):
        for bar in (BAR, ("brick", None)):
            self.assert_no_paper("more", -1, lets_bar, HEAP, (), bar)
            self.assert_no_paper("more", -1, lets_bar, Heap(), (), bar)
            self.assertIs(lets_bar(Heap(), WANTS, bar), True)

    def test_large_ones(self):
        six = ("a", "b", "c", "d", "e", "f")
        wants = (("x", six, LARGEST),) * 48
        rows = tuple(("x", shade, 8 * LARGEST) for shade in six)
        self.assert_no_paper("more", -1, lets_bar, Heap(rows), wants, ("x", six))
        self.assertIs(lets_bar(Heap(rows).less(Heap((("x", "f", 1),))), wants, ("x", six)), True)
        self.assertIs(lets_bar(Heap(rows), wants + (("x", (), 1),), ("x", None)), True)


class Shapes(unittest.TestCase, Refusals):
    def test_no_tuple_of_two(self):
        things = list(NO_TUPLES) + [(), ("brick",), BAR + (1,), BAR + ((),), list(BAR), (BAR,), BAR[1], BAR[::-1],
                                    ("brick", "blue", "red"), ["brick", None], ("brick", None, None), deep(20, 1),
                                    deep(20, 1, True), deep(17, BAR), (1,) * 4999, "a" * 4000]
        for thing in things:
            self.assert_no_paper("shape", -1, lets_bar, HEAP, WANTS, thing)

    def test_no_word_first(self):
        for wrong in NO_WORDS:
            self.assert_no_paper("shape", -1, lets_bar, HEAP, WANTS, (wrong, BAR[1]))
            self.assert_no_paper("shape", -1, lets_bar, HEAP, WANTS, (wrong, None))

    def test_neither_none_nor_a_tuple_of_one_at_least_second(self):
        for wrong in (thing for thing in NO_TUPLES + ((), ["blue", "red"]) if thing is not None):
            self.assert_no_paper("shape", -1, lets_bar, HEAP, WANTS, ("brick", wrong))

    def test_no_shade(self):
        shades = ("a", "blue", "green", "red")
        for at in range(len(shades)):
            for wrong in NO_WORDS + (deep(17, "red"), deep(17, "red", True)):
                thing = ("brick", replaced(shades, at, wrong))
                self.assert_no_paper("shade", at, lets_bar, HEAP, WANTS, thing)

    def test_shades_that_do_not_rise(self):
        for shades, at in ((("red", "blue"), 1), (("red", "red"), 1), (("blue", "red", "green"), 2),
                           (("blue", "red", "red"), 2), (("blue", "blue", "red"), 1), (("ab", "a"), 1),
                           (("a", "b", "c", "b", "a"), 3)):
            self.assert_no_paper("shade", at, lets_bar, HEAP, WANTS, ("brick", shades))

    def test_of_several_faults_the_one_told_first(self):
        for thing, word, at in (((1, ("red", "blue")), "shape", -1), (("brick", ("blue", "red"), 1), "shape", -1),
                                (["brick", ("red", "red")], "shape", -1), (("Brick", (1,)), "shape", -1),
                                (("plate", ("red", "blue")), "shade", 1), (("plate", (None,)), "shade", 0),
                                (("brick", ("red", 1, "blue")), "shade", 1), (("brick", (True, True)), "shade", 0),
                                (("brick", ("b", "a", 1)), "shade", 1), (("nothing", None), "more", -1)):
            self.assert_no_paper(word, at, lets_bar, HEAP, WANTS, thing)


class Families(unittest.TestCase, Refusals):
    def test_taken_by_its_families_alone(self):
        for thing in ((), ("brick", ("red", "red")), ("plate", None)):
            self.assert_families(NoPaper, lambda: lets_bar(HEAP, WANTS, thing))

    def test_nothing_handed_in_is_changed(self):
        heap = Heap(HEAP.rows())
        for thing in (["brick", ["red"]], ("brick", ["red", "blue"]), ("brick", (["red"], "blue")), ("plate", ("a",))):
            kept = copy.deepcopy(thing)
            for again in range(2):
                with self.assertRaises(NoPaper):
                    lets_bar(heap, WANTS, thing)
            self.assertEqual(thing, kept)
        self.assertEqual(heap, HEAP)


class Wholly(unittest.TestCase):
    """Some BAR is let by just where no GIVEN is served."""

    def barred(self, heap, wants, forms, shades):
        told = False
        for form in forms:
            for some in subsets(shades)[1:] + [None]:
                try:
                    told = lets_bar(heap, wants, (form, some)) or told
                except NoPaper as refusal:
                    self.assertEqual((refusal.word, refusal.at), ("more", -1))
        return told

    def compared(self, heaps, cases, forms, shades):
        seen = {True: 0, False: 0}
        for heap in heaps:
            counts = counted(heap.rows())
            for wants in cases:
                served = any(plain_serves(counts, wants, given) for given in all_givens(wants, shades))
                self.assertIs(self.barred(heap, wants, forms, shades), not served, (heap, wants))
                seen[served] += 1
        self.assertTrue(seen[True] and seen[False])

    def test_two_shades(self):
        self.compared(list(small_heaps(("a",), ("r", "s"), 3)), small_wants(("a",), ("r", "s"), (1, 2), 3),
                      ("a",), ("r", "s"))

    def test_three_shades(self):
        self.compared(list(small_heaps(("a",), ("r", "s", "t"), 1)), small_wants(("a",), ("r", "s", "t"), (1,), 3),
                      ("a",), ("r", "s", "t"))

    def test_several_forms(self):
        for chance in chances(150):
            heap = Heap(some_rows(chance, most=8))
            wants = tuple(some_want(chance) for at in range(chance.randint(0, 4)))
            served = any(plain_serves(counted(heap.rows()), wants, given)
                         for given in all_givens(wants, ("blue", "re", "red")))
            self.assertIs(self.barred(heap, wants, ("a", "ab", "b"), ("blue", "re", "red")), not served)


if __name__ == "__main__":
    unittest.main()
