"""Points 28, 29 and 30: how many of a PART are given at least and at most, and SPAN PAPERS for it."""

import itertools
import unittest

from partkits.barchecker import lets_bar
from partkits.dealing import deal
from partkits.dealings import is_given, serves
from partkits.errors import NoDealing
from partkits.heaps import Heap
from partkits.leastmost import least_most
from partkits.lmchecker import lets_least_most
from partkits.lmpapers import span_paper
from tests.paper_support import Refusals, all_givens, plain_serves, plain_sum, small_heaps, small_wants
from tests.support import LARGEST, all_just_tuples, chances, counted, made_odd, shares_a_tuple, some_rows, some_want

HEAP = Heap((("brick", "blue", 3), ("brick", "lime", 1), ("brick", "red", 4), ("plate", "red", 2), ("tile", "red", 5)))
WANTS = (("brick", ("blue", "red"), 4), ("brick", ("red",), 1), ("plate", (), 2), ("brick", (), 1))
SHADES = ("blue", "re", "red")


class LeastMost(unittest.TestCase, Refusals):
    def span(self, heap, wants, form, shade):
        """(least, most), the SPAN PAPER looked at closely; None where both are refused."""
        try:
            told = least_most(heap, wants, form, shade)
        except NoDealing as refusal:
            self.assertIs(lets_bar(heap, wants, refusal.paper), True)
            with self.assertRaises(NoDealing) as caught:
                span_paper(heap, wants, form, shade)
            self.assertIs(lets_bar(heap, wants, caught.exception.paper), True)
            return None
        self.assertEqual([type(told), type(told[0]), type(told[1])], [tuple, int, int])
        paper = span_paper(heap, wants, form, shade)
        self.assertTrue(all_just_tuples(paper))
        for given, many in zip(paper[:2], told):
            self.assertIs(is_given(wants, given), True)
            self.assertIs(serves(heap, wants, given), True)
            self.assertEqual(plain_sum(wants, given).get((form, shade), 0), many)
        if told[0] == 0:
            self.assertEqual(paper[2], ())
        self.assertEqual(lets_least_most(heap, wants, form, shade, paper), told)
        return told

    def test_spans(self):
        for form, shade, told in (("brick", "red", (2, 4)), ("brick", "blue", (1, 3)), ("brick", "lime", (0, 1)),
                                  ("plate", "red", (2, 2)), ("tile", "red", (0, 0)), ("brick", "x", (0, 0)),
                                  ("plate", "blue", (0, 0)), ("wheel", "red", (0, 0)), ("red", "brick", (0, 0))):
            self.assertEqual(self.span(HEAP, WANTS, form, shade), told, (form, shade))
        self.assertEqual(least_most(shade="red", form="brick", wants=WANTS, heap=HEAP), (2, 4))
        self.assertEqual(lets_least_most(HEAP, WANTS, "brick", "red", span_paper(
            shade="red", form="brick", wants=WANTS, heap=HEAP)), (2, 4))

    def test_a_part_that_all_need(self):
        heap = Heap((("a", "r", 4), ("a", "s", 1)))
        wants = (("a", ("r",), 2), ("a", (), 2))
        self.assertEqual(self.span(heap, wants, "a", "r"), (3, 4))
        self.assertEqual(self.span(heap, wants, "a", "s"), (0, 1))
        self.assertEqual(self.span(heap, wants + (("a", (), 1),), "a", "r"), (4, 4))
        self.assertEqual(self.span(heap, wants + (("a", (), 1),), "a", "s"), (1, 1))

    def test_parts_that_none_needs_or_lets_or_that_are_not_there(self):
        heap = Heap((("a", "r", 2), ("a", "s", 9), ("b", "r", 1)))
        wants = (("a", ("r", "t"), 2),)
        self.assertEqual(self.span(heap, wants, "a", "r"), (2, 2))
        for form, shade in (("a", "s"), ("a", "t"), ("a", "x"), ("b", "r"), ("c", "r")):
            self.assertEqual(self.span(heap, wants, form, shade), (0, 0))

    def test_least_by_some_shades_and_by_all_of_a_form(self):
        heap = Heap((("a", "r", 9), ("a", "s", 1), ("a", "t", 2)))
        self.assertEqual(self.span(heap, (("a", ("r", "s"), 3), ("a", ("t",), 2)), "a", "r"), (2, 3))
        self.assertEqual(self.span(heap, (("a", ("r", "s"), 3), ("a", (), 7)), "a", "r"), (7, 9))
        self.assertEqual(self.span(heap, (("a", ("r", "s"), 3), ("a", (), 1)), "a", "r"), (2, 4))
        self.assertEqual(self.span(heap, (("a", ("r", "s"), 3), ("a", ("s", "t"), 2)), "a", "r"), (2, 3))
        self.assertEqual(self.span(heap, (("a", ("s", "t"), 3), ("a", ("r", "t"), 2)), "a", "r"), (2, 2))

    def test_no_wants_and_a_heap_of_none(self):
        self.assertEqual(self.span(HEAP, (), "brick", "red"), (0, 0))
        self.assertEqual(self.span(Heap(), (), "brick", "red"), (0, 0))
        self.assertEqual(span_paper(Heap(), (), "brick", "red"), ((), (), ()))
        self.assertIsNone(self.span(Heap(), WANTS, "brick", "red"))

    def test_refused_where_no_given_is_served(self):
        for wants in (WANTS + (("plate", (), 1),), WANTS + (("brick", ("lime",), 2),), (("wheel", ("red",), 1),),
                      WANTS + (("wheel", (), 1),), (("brick", ("x",), 1),)):
            for form, shade in (("brick", "red"), ("tile", "red"), ("wheel", "x"), ("plate", "red")):
                self.assertIsNone(self.span(HEAP, wants, form, shade))
                for ask in (least_most, span_paper):
                    self.assert_families(NoDealing, lambda: ask(HEAP, wants, form, shade))
        with self.assertRaises(NoDealing) as caught:
            least_most(HEAP, (("brick", ("x",), 1),), "brick", "red")
        self.assertEqual(caught.exception.paper, ("brick", ("x",)))

    def test_large_ones(self):
        heap = Heap((("a", "r", LARGEST), ("a", "s", LARGEST), ("a", "t", 1)))
        wants = (("a", ("r", "s"), LARGEST), ("a", (), LARGEST))
        self.assertEqual(self.span(heap, wants, "a", "r"), (LARGEST - 1, LARGEST))
        self.assertEqual(self.span(heap, wants, "a", "t"), (0, 1))
        self.assertEqual(self.span(heap, wants[:1], "a", "s"), (0, LARGEST))
        shades = tuple(a + b for a in "abcde" for b in "stuvwxyz")
        forty = Heap(tuple(("x", shade, LARGEST) for shade in shades))
        wants = tuple(("x", shades[at:at + 6], LARGEST - 1) for at in range(35)) + (("x", (), LARGEST // 2),) * 10
        self.assertEqual(self.span(forty, wants, "x", shades[0]), (LARGEST - 35, LARGEST))
        self.assertEqual(self.span(forty, wants, "x", shades[20]), (LARGEST - 35, LARGEST))
        self.assertEqual(self.span(forty, wants[:35], "x", shades[39]), (0, LARGEST - 1))
        self.assertEqual(self.span(forty, wants[:1] * 6, "x", shades[5]), (LARGEST - 6, LARGEST))
        self.assertEqual(self.span(forty, wants[:1] * 48, "x", shades[5]), None)

    def compared(self, heap, wants, form, shade, shades):
        """Against all GIVENS: the least, the most, and each NUMBER between; whether there are some."""
        counts = counted(heap.rows())
        plain = {plain_sum(wants, given).get((form, shade), 0) for given in all_givens(wants, shades)
                 if plain_serves(counts, wants, given)}
        told = self.span(heap, wants, form, shade)
        if told is None:
            self.assertEqual(plain, set(), (heap, wants, form, shade))
        else:
            self.assertEqual(plain, set(range(told[0], told[1] + 1)), (heap, wants, form, shade))
        return told

    def test_all_small_ones(self):
        for shades, most, manys, size in ((("r", "s"), 3, (1, 2), 3), (("r", "s", "t"), 2, (1,), 3)):
            seen = set()
            cases = small_wants(("a",), shades, manys, size)
            for heap in small_heaps(("a",), shades, most):
                if heap.many("a"):
                    seen |= {self.compared(heap, wants, "a", "r", shades) for wants in cases}
            self.assertTrue({None, (0, 0), (0, 1), (1, 1), (0, 2), (1, 2), (2, 2)} <= seen)

    def test_several_forms(self):
        seen = set()
        for chance in chances(150):
            heap = Heap(some_rows(chance, most=9))
            wants = tuple(some_want(chance) for at in range(chance.randint(1, 3)))
            for form, shade in itertools.product(("a", "ab"), SHADES):
                seen.add(self.compared(heap, wants, form, shade, SHADES))
        self.assertTrue({None, (0, 0), (0, 1), (1, 1), (0, 2), (1, 2)} <= seen)

    def test_with_least_it_is_served_and_with_one_fewer_not(self):
        for chance in chances(150):
            heap = Heap(some_rows(chance, most=9))
            wants = tuple(some_want(chance) for at in range(chance.randint(1, 4)))
            if deal(heap, wants)[0] == "bar":
                continue
            for form, shade, many in heap.rows():
                least, most = least_most(heap, wants, form, shade)
                others = tuple(row for row in heap.rows() if row[:2] != (form, shade))
                for few in range(many + 1):
                    rows = others + (((form, shade, few),) if few else ())
                    self.assertIs(deal(Heap(rows), wants)[0] == "dealt", few >= least)
                lets = sum(want[2] for want in wants if want[0] == form and (not want[1] or shade in want[1]))
                self.assertEqual(most, min(many, lets))

    def test_told_is_new_and_nothing_is_changed(self):
        heap = Heap(HEAP.rows())
        for wants in (WANTS, made_odd(WANTS)):
            for form, shade in (("brick", "red"), ("brick", "blue"), ("wheel", "red")):
                one, other = span_paper(heap, wants, form, shade), span_paper(heap, wants, form, shade)
                self.assertTrue(all_just_tuples(one))
                for told in (other, wants):
                    self.assertFalse(shares_a_tuple(one, told))
                for at in range(3):
                    self.assertFalse(shares_a_tuple(one[at:at + 1], one[:at] + one[at + 1:]))
        self.assertEqual(heap, HEAP)


if __name__ == "__main__":
    unittest.main()
