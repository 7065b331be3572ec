"""Point 30: the look at SPAN PAPERS."""

import copy
import itertools
import unittest

from partkits.errors import NoPaper
from partkits.heaps import Heap
from partkits.lmchecker import lets_least_most
from partkits.lmpapers import span_paper
from tests.paper_support import (Refusals, all_givens, broken_gifts, plain_serves, plain_sum, small_heaps, small_wants,
                                 subsets)
from tests.support import LARGEST, NO_TUPLES, counted, deep, replaced

HEAP = Heap((("brick", "blue", 3), ("brick", "red", 4), ("plate", "red", 2)))
WANTS = (("brick", ("blue", "red"), 4), ("brick", ("red",), 1), ("plate", (), 2))
FEWEST = ((("blue", 3), ("red", 1)), (("red", 1),), (("red", 2),))
GREATEST = ((("blue", 1), ("red", 3)), (("red", 1),), (("red", 2),))
BAR = ("brick", ("blue", "red"))
PAPER = (FEWEST, GREATEST, BAR)
BETWEEN = ((("blue", 2), ("red", 2)), (("red", 1),), (("red", 2),))
UNSERVED = ((("red", 4),), (("red", 1),), (("red", 2),))


class LetBy(unittest.TestCase, Refusals):
    def test_let_by(self):
        told = lets_least_most(HEAP, WANTS, "brick", "red", PAPER)
        self.assertEqual(told, (2, 4))
        self.assertEqual([type(told), type(told[0]), type(told[1])], [tuple, int, int])
        self.assertEqual(lets_least_most(thing=PAPER, shade="red", form="brick", wants=WANTS, heap=HEAP), (2, 4))

    def test_other_bars_do_as_well(self):
        for bar in (("brick", None), ("brick", ("blue", "lime", "red")), ("brick", ("a", "blue", "red", "z"))):
            self.assertEqual(lets_least_most(HEAP, WANTS, "brick", "red", (FEWEST, GREATEST, bar)), (2, 4))

    def test_none_at_least(self):
        for form, shade in (("brick", "lime"), ("plate", "blue"), ("wheel", "red"), ("red", "brick")):
            for one, other in itertools.product((FEWEST, GREATEST, BETWEEN), repeat=2):
                self.assertEqual(lets_least_most(HEAP, WANTS, form, shade, (one, other, ())), (0, 0))
        heap = Heap((("a", "r", 2), ("a", "s", 1)))
        paper = (((("s", 1),),), ((("r", 1),),), ())
        self.assertEqual(lets_least_most(heap, (("a", (), 1),), "a", "r", paper), (0, 1))

    def test_no_wants(self):
        for heap in (Heap(), HEAP):
            self.assertEqual(lets_least_most(heap, (), "brick", "red", ((), (), ())), (0, 0))
            self.assert_no_paper("bar", -1, lets_least_most, heap, (), "brick", "red", ((), (), BAR))

    def test_a_bar_of_the_heap_with_one_fewer_and_all_else(self):
        heap = Heap((("a", "r", 5), ("a", "s", 1)))
        wants = (("a", ("r", "s"), 3),)
        few, all_red = ((("r", 2), ("s", 1)),), ((("r", 3),),)
        self.assertEqual(lets_least_most(heap, wants, "a", "r", (few, all_red, ("a", ("r", "s")))), (2, 3))
        self.assert_no_paper("bar", -1, lets_least_most, heap, wants, "a", "r", (all_red, all_red, ("a", ("r", "s"))))
        self.assert_no_paper("bar", -1, lets_least_most, heap, wants, "a", "r", (few, all_red, ("a", ("r",))))

    def test_large_ones(self):
        heap = Heap((("a", "r", LARGEST), ("a", "s", LARGEST)))
        wants = (("a", (), LARGEST), ("a", ("r", "s"), 1))
        few, many = ((("s", LARGEST),), (("r", 1),)), ((("r", LARGEST),), (("s", 1),))
        self.assertEqual(lets_least_most(heap, wants, "a", "r", (few, many, ("a", None))), (1, LARGEST))
        self.assert_no_paper("most", -1, lets_least_most, heap, wants, "a", "r", (few, few, ("a", None)))


class Refused(unittest.TestCase, Refusals):
    def refused(self, word, thing, heap=HEAP, wants=WANTS):
        self.assert_no_paper(word, -1, lets_least_most, heap, wants, "brick", "red", thing)

    def test_shape(self):
        for thing in list(NO_TUPLES) + [(), PAPER[:1], PAPER[:2], PAPER + ((),), list(PAPER), (PAPER,), BAR,
                                        (2, 4), deep(15, PAPER), deep(20, 1), deep(20, 1, True), (1,) * 4999]:
            self.refused("shape", thing)

    def test_fewest_and_greatest_are_no_givens(self):
        things = broken_gifts(FEWEST) + [replaced(FEWEST, 1, (("blue", 1),)), replaced(FEWEST, 1, (("lime", 1),)), (), BAR]
        for thing in things:
            self.refused("fewest", (thing, GREATEST, BAR))
        for thing in broken_gifts(GREATEST) + things[-4:]:
            self.refused("greatest", (FEWEST, thing, BAR))

    def test_fewest_and_greatest_are_not_served(self):
        unserved = (UNSERVED, replaced(FEWEST, 2, (("blue", 2),)), replaced(FEWEST, 0, (("blue", 4),)))
        for given in unserved:
            self.refused("fewest", (given, GREATEST, BAR))
            self.refused("greatest", (FEWEST, given, BAR))
        self.refused("fewest", PAPER, heap=Heap())
        self.refused("fewest", PAPER, heap=HEAP.less(Heap((("brick", "blue", 1),))))
        self.refused("greatest", PAPER, heap=HEAP.less(Heap((("brick", "red", 1),))))

    def test_bar(self):
        things = list(NO_TUPLES) + [(), [], list(BAR), BAR + (1,), (BAR,), ("brick", ()), ("brick", ["blue", "red"]),
                                    ("brick", ("red", "blue")), ("brick", ("red",)), ("brick", ("blue",)),
                                    ("plate", None), ("plate", ("red",)), ("wheel", None), FEWEST, (1, None),
                                    ("brick", ("blue", "blue", "red")), ("brick", (True,)), deep(20, 1)]
        for thing in things:
            self.refused("bar", (FEWEST, GREATEST, thing))

    def test_fewest_that_gives_more_than_least(self):
        for given in (GREATEST, BETWEEN):
            for bar in (BAR, ("brick", None), ()):
                self.refused("bar", (given, GREATEST, bar))

    def test_just_the_void_tuple_where_fewest_gives_none(self):
        paper = span_paper(HEAP, WANTS, "plate", "blue")
        self.assertEqual(paper[2], ())
        for bar in NO_TUPLES + (BAR, ((),), [], ("plate", None), ("plate", ("blue",))):
            thing = paper[:2] + (bar,)
            self.assert_no_paper("bar", -1, lets_least_most, HEAP, WANTS, "plate", "blue", thing)

    def test_most(self):
        for given in (FEWEST, BETWEEN):
            self.refused("most", (FEWEST, given, BAR))

    def test_most_is_the_lesser_of_two(self):
        heap = Heap((("a", "r", 5), ("a", "s", 5)))
        wants = (("a", ("r", "s"), 2), ("a", ("s",), 1), ("a", (), 1))
        none = ((("s", 2),), (("s", 1),), (("s", 1),))
        one = ((("r", 1), ("s", 1)), (("s", 1),), (("s", 1),))
        three = ((("r", 2),), (("s", 1),), (("r", 1),))
        self.assertEqual(lets_least_most(heap, wants, "a", "r", (none, three, ())), (0, 3))
        self.assert_no_paper("most", -1, lets_least_most, heap, wants, "a", "r", (none, one, ()))
        fewer = Heap((("a", "r", 1), ("a", "s", 5)))
        self.assertEqual(lets_least_most(fewer, wants, "a", "r", (none, one, ())), (0, 1))
        self.assert_no_paper("most", -1, lets_least_most, fewer, wants, "a", "r", (none, none, ()))

    def test_of_several_faults_the_one_told_first(self):
        for thing, word in (((UNSERVED, UNSERVED), "shape"), ([1, 2, 3], "shape"), ((1, 2, 3), "fewest"),
                            ((UNSERVED, UNSERVED, 1), "fewest"), ((FEWEST, UNSERVED, 1), "greatest"),
                            ((FEWEST, 1, ()), "greatest"), ((FEWEST, FEWEST, ()), "bar"), ((FEWEST, FEWEST, 1), "bar"),
                            ((GREATEST, FEWEST, BAR), "bar"), ((FEWEST, FEWEST, BAR), "most")):
            self.refused(word, thing)

    def test_taken_by_its_families_alone(self):
        for thing in ((), (1, 2, 3), (FEWEST, 1, BAR), (FEWEST, GREATEST, ()), (FEWEST, FEWEST, BAR)):
            self.assert_families(NoPaper, lambda: lets_least_most(HEAP, WANTS, "brick", "red", thing))

    def test_nothing_handed_in_is_changed(self):
        heap = Heap(HEAP.rows())
        for thing in ([FEWEST, GREATEST, BAR], (list(FEWEST), [1], BAR), (FEWEST, GREATEST, ["brick", ["red"]]),
                      (FEWEST, (["x"], [("red", 1)], []), BAR), (FEWEST, FEWEST, BAR)):
            kept = copy.deepcopy(thing)
            for again in range(2):
                with self.assertRaises(NoPaper):
                    lets_least_most(heap, WANTS, "brick", "red", thing)
            self.assertEqual(thing, kept)
        self.assertEqual(heap, HEAP)


class Wholly(unittest.TestCase):
    def test_what_is_let_by_is_so(self):
        """All GIVENS with all bars: what is let by is the least and the most, and these are let by with some bar."""
        shades = ("r", "s")
        bars = [()] + [("a", some) for some in subsets(shades)[1:] + [None]]
        lets = 0
        for heap, wants in itertools.product(small_heaps(("a",), shades, 2), small_wants(("a",), shades, (1, 2), 2)):
            counts = counted(heap.rows())
            served = [given for given in all_givens(wants, shades) if plain_serves(counts, wants, given)]
            numbers = {given: plain_sum(wants, given).get(("a", "r"), 0) for given in served}
            for fewest, greatest in itertools.product(served, repeat=2):
                told = []
                for bar in bars:
                    try:
                        told.append(lets_least_most(heap, wants, "a", "r", (fewest, greatest, bar)))
                    except NoPaper as refusal:
                        self.assertIn((refusal.word, refusal.at), (("bar", -1), ("most", -1)))
                span = min(numbers.values()), max(numbers.values())
                self.assertEqual(bool(told), (numbers[fewest], numbers[greatest]) == span)
                self.assertTrue(set(told) <= {span})
                lets += len(told)
        self.assertGreater(lets, 100)


if __name__ == "__main__":
    unittest.main()
