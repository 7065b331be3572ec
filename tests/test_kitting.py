"""Points 48 and 49: the fewest KITS that MAKE a SHEET."""

import copy
import itertools
import unittest

from partkits.dealing import deal
from partkits.errors import NoKits, PaperError
from partkits.heaps import Heap
from partkits.kitting import fewest
from tests.kit_support import (CAR, HEAP, KITS, SPARE, WALL, WANTS, all_many, all_places, fewest_tried, heap_of, is_never,
                               is_place, makes, plain_of, small_kits, some_kits, with_so_many)
from tests.paper_support import Refusals, small_heaps, small_wants
from tests.support import LARGEST, all_just_tuples, chances, made_odd, shares_a_tuple


class Fewest(unittest.TestCase, Refusals):
    def told(self, heap, kits, wants):
        """How many KITS are told, added, what is told looked at closely; the paper where it is refused."""
        sheet = plain_of(*wants)
        try:
            many = fewest(heap, kits, sheet)
        except NoKits as refusal:
            self.assertTrue(is_place(refusal.paper), refusal.paper)
            self.assertTrue(is_never(heap, kits, wants, refusal.paper), (heap, kits, wants, refusal.paper))
            return refusal.paper
        self.assertIs(type(many), tuple)
        self.assertEqual(len(many), len(kits))
        self.assertTrue(all(type(own) is int and own >= 0 for own in many))
        self.assertEqual(deal(with_so_many(heap, kits, many), wants)[0], "dealt")
        return sum(many)

    def test_ordinary(self):
        self.assertEqual(fewest(HEAP, KITS, plain_of(*WANTS)), (2, 2, 0))
        self.assertEqual(fewest(sheet=plain_of(*WANTS), kits=KITS, heap=HEAP), (2, 2, 0))
        self.assertEqual(fewest(HEAP, (WALL, CAR), plain_of(*WANTS)), (2, 2))
        self.assertEqual(fewest(HEAP, (CAR, WALL), (((WANTS[0], WANTS[3]),), (WANTS[1:3],))), (2, 2))
        self.assertEqual(fewest(Heap(), KITS, plain_of(("brick", (), 18))), (0, 3, 0))
        self.assertEqual(fewest(Heap(), KITS, plain_of(("tile", ("x", "y"), 11), ("plate", (), 2))), (2, 0, 3))

    def test_rows_of_several_wants_and_ways_that_want_nothing(self):
        self.assertEqual(fewest(HEAP, KITS, ((WANTS[:2],), ((),), (WANTS[2:],))), (2, 2, 0))
        self.assertEqual(fewest(Heap(), KITS, (((),), ((),))), (0, 0, 0))

    def test_noughts_alone(self):
        for kits in ((), KITS, (Heap(),), (Heap(), CAR)):
            self.assertEqual(fewest(Heap(), kits, ()), (0,) * len(kits))
            self.assertEqual(fewest(HEAP, kits, plain_of(("brick", ("blue",), 1), ("wheel", (), 2))), (0,) * len(kits))
        self.assertEqual(fewest(heap_of(r=LARGEST), (heap_of(r=LARGEST),), plain_of(("a", (), LARGEST))), (0,))

    def test_no_kits_at_all(self):
        self.assertEqual(fewest(Heap(), (), ()), ())
        self.assertEqual(fewest(WALL, (), plain_of(("brick", ("blue", "red"), 6))), ())
        self.assertEqual(self.told(WALL, (), (("brick", ("blue", "red"), 7),)), ("brick", ("blue", "red")))
        self.assertEqual(self.told(WALL, (), (("brick", (), 7),)), ("brick", None))
        self.assertEqual(self.told(Heap(), (), (("a", ("r",), 1),)), ("a", ("r",)))

    def test_never(self):
        self.assertEqual(self.told(HEAP, KITS, (("tile", ("y",), 1),)), ("tile", ("y",)))
        self.assertEqual(self.told(HEAP, KITS, (("door", (), 1),)), ("door", None))
        self.assertEqual(self.told(HEAP, KITS, WANTS + (("wheel", ("white",), 3),)), ("wheel", ("white",)))
        self.assertEqual(self.told(HEAP, KITS, WANTS + (("wheel", ("white",), 2), ("wheel", ("red", "white"), 1))),
                         ("wheel", ("red", "white")))
        self.assertEqual(self.told(HEAP, (Heap(), Heap()), (("brick", (), 2),)), ("brick", None))
        self.assertEqual(self.told(Heap(), (SPARE,), (("wheel", (), 7), ("brick", (), 1))), ("brick", None))
        # the WANTS of any SHADE take what is left, and the white ones that the HEAP has are kept for those of white
        self.assertEqual(self.told(HEAP, KITS, (("wheel", ("white",), 2), ("wheel", (), 5))), 2)

    def test_kits_that_have_nothing_that_is_wanted(self):
        self.assertEqual(fewest(Heap(), (WALL, SPARE), plain_of(("brick", (), 7))), (2, 0))
        self.assertEqual(fewest(Heap(), (Heap(), WALL, Heap()), plain_of(("brick", ("red",), 7))), (0, 3, 0))
        self.assertEqual(self.told(Heap(), (SPARE, SPARE), (("brick", (), 7),)), ("brick", None))

    def test_alike_kits(self):
        for size in range(1, 5):
            self.assertEqual(self.told(Heap(), (WALL,) * size, (("brick", ("blue",), 7), ("brick", (), 1))), 3)
        self.assertEqual(self.told(Heap(), (heap_of(r=2), heap_of(r=2), heap_of(s=2), heap_of(s=2)),
                                   (("a", ("r",), 7), ("a", ("s",), 7))), 8)

    def test_the_greater_one_is_not_always_taken(self):
        kits = (heap_of(r=4), heap_of(r=3, s=3))
        self.assertEqual(fewest(Heap(), kits, plain_of(("a", ("r",), 7), ("a", ("s",), 3))), (1, 1))
        self.assertEqual(fewest(Heap(), kits, plain_of(("a", ("r",), 8))), (2, 0))
        self.assertEqual(fewest(Heap(), kits, plain_of(("a", (), 11))), (0, 2))

    def test_fractions_do_not_help(self):
        two = (heap_of(r=2), heap_of(s=2), heap_of(t=2), heap_of(u=2))
        for size in range(1, 5):
            wants = tuple(("a", (shade,), 3) for shade in "rstu"[:size])
            self.assertEqual(self.told(Heap(), two[:size], wants), 2 * size)
        pairs = (heap_of(r=1, s=1), heap_of(s=1, t=1), heap_of(r=1, t=1))
        for many in range(1, 5):
            wants = tuple(("a", (shade,), many) for shade in "rst")
            self.assertEqual(self.told(Heap(), pairs, wants), (3 * many + 1) // 2)

    def test_many_far_above(self):
        self.assertEqual(fewest(Heap(), (heap_of(r=1),), plain_of(*[("a", (), LARGEST)] * 48)), (48 * LARGEST,))
        sheet = plain_of(*[("a", (), LARGEST)] * 48)
        self.assertEqual(fewest(heap_of(s=1), (heap_of(r=1),), sheet), (48 * LARGEST - 1,))
        sheet = plain_of(("a", ("r",), LARGEST), ("a", ("s",), LARGEST - 7))
        self.assertEqual(fewest(Heap(), (heap_of(r=2), heap_of(s=1)), sheet), (LARGEST // 2, LARGEST - 7))
        kits = (heap_of(r=2), heap_of(s=2), heap_of(r=1, s=1))
        self.assertEqual(self.told(Heap(), kits, (("a", ("r",), LARGEST - 1), ("a", ("s",), LARGEST - 1))), LARGEST - 1)
        kits = (heap_of(r=3, s=1), heap_of(r=1, s=3))
        wants = (("a", ("r",), 40 * LARGEST), ("a", ("s",), 40 * LARGEST))
        self.assertEqual(self.told(Heap(), kits, wants), 20 * LARGEST)

    def test_large_counts(self):
        kits = (heap_of(r=LARGEST, s=1), heap_of(r=1, s=LARGEST))
        for red, other, told in ((LARGEST, LARGEST, 2), (LARGEST + 1, LARGEST + 1, 2), (LARGEST + 1, LARGEST, 2),
                                 (LARGEST + 2, LARGEST, 3), (2 * LARGEST, 2, 2), (LARGEST, 1, 1), (LARGEST, 2, 2)):
            self.assertEqual(self.told(Heap(), kits, (("a", ("r",), red), ("a", ("s",), other))), told, (red, other))
            fewer = heap_of(r=red - 1, s=other - 1)
            self.assertEqual(self.told(fewer, kits, (("a", ("r",), red), ("a", ("s",), other))), 1)

    def test_forty_parts(self):
        shades = [x + y for x in "abcde" for y in "stuvwxyz"]
        kits = tuple(heap_of(**{shade: 1 + at % 3 for at, shade in enumerate(shades) if at % 4 != k}) for k in range(4))
        heap = heap_of(**{shade: 2 for shade in shades})
        wants = tuple(("a", tuple(shades[at % 40:][:1 + at % 6]), 7) for at in range(48))
        told = self.told(heap, kits, wants)
        self.assertTrue(3 <= told <= 8, told)
        for many in all_many(4, told - 1):
            self.assertEqual(deal(with_so_many(heap, kits, many), wants)[0], "bar")

    def test_small_cases_gone_through_wholly(self):
        seen = set()
        places = all_places(("a",), ("r", "s"))
        heaps = [heap_of(), heap_of(r=1), heap_of(r=1, s=2)]
        wants_tried = [wants for wants in small_wants(("a",), ("r", "s"), (1, 3), 3) if len(wants) != 2]
        for kits, wants in itertools.product(small_kits((0, 1, 2)), wants_tried):
            for heap in heaps:
                told = self.told(heap, kits, wants)
                never = any(is_never(heap, kits, wants, place) for place in places)
                self.assertIs(isinstance(told, tuple), never)
                if not never:
                    self.assertFalse(any(makes(heap, kits, many, wants) for many in all_many(len(kits), told - 1)))
                    seen.add(told)
        self.assertEqual(seen, set(range(10)))

    def test_just_as_many_as_all_tried(self):
        seen = set()
        for chance in chances(400):
            heap, kits, wants = some_kits(chance)
            told = self.told(heap, kits, wants)
            never = any(is_never(heap, kits, wants, place)
                        for place in all_places(("a", "ab", "b"), ("blue", "re", "red")))
            self.assertIs(isinstance(told, tuple), never)
            if never:
                self.assertIsNone(fewest_tried(heap, kits, wants, 3))
            else:
                self.assertEqual(told, fewest_tried(heap, kits, wants, told))
                self.assertFalse(any(makes(heap, kits, many, wants) for many in all_many(len(kits), told - 1)))
            seen.add("never" if never else told)
        self.assertTrue({"never", 0, 1, 2, 3, 4, 5} <= seen)

    def test_kits_and_rows_in_another_order(self):
        for chance in chances(60):
            heap, kits, wants = some_kits(chance)
            told = self.told(heap, kits, wants)
            for turned in itertools.permutations(kits):
                other = self.told(heap, turned, wants[::-1])
                self.assertEqual(isinstance(other, int) and other, isinstance(told, int) and told)

    def test_a_part_more_in_the_heap_or_a_kit_more(self):
        for chance in chances(60):
            heap, kits, wants = some_kits(chance)
            told = self.told(heap, kits, wants)
            for more in small_heaps(("a",), ("blue", "red"), 1):
                if isinstance(told, int):
                    self.assertLessEqual(self.told(heap.plus(more), kits, wants), told)
                    self.assertLessEqual(self.told(heap, kits + (more,), wants), told)

    def test_refusals(self):
        sheet = plain_of(("brick", ("lime",), 1))
        self.assert_families(NoKits, lambda: fewest(HEAP, KITS, sheet))
        with self.assertRaises(PaperError) as caught:
            fewest(HEAP, KITS, sheet)
        self.assertEqual(caught.exception.paper, ("brick", ("lime",)))
        self.assertTrue(all_just_tuples(caught.exception.paper))

    def test_new_and_nothing_is_changed(self):
        kits = (Heap(CAR.rows()), Heap(WALL.rows()))
        for sheet in (plain_of(*WANTS), made_odd(plain_of(*WANTS)), plain_of(("brick", ("lime", "x"), 1))):
            kept, heap = copy.deepcopy(sheet), Heap(HEAP.rows())
            try:
                one, other = fewest(heap, kits, sheet), fewest(heap, kits, sheet)
                self.assertIsNot(one, other)
                self.assertTrue(all_just_tuples(one))
            except NoKits as refusal:
                self.assertFalse(shares_a_tuple(refusal.paper, sheet))
            self.assertEqual((sheet, heap, kits), (kept, HEAP, (CAR, WALL)))


if __name__ == "__main__":
    unittest.main()
