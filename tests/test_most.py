"""Points 39 and 45: the SHEET of some THINGS, and the most of them AT ONCE."""

import copy
import itertools
import unittest

from partkits.dealings import is_dealing
from partkits.heaps import Heap
from partkits.most import most, sheet_of
from partkits.sheets import choices, is_sheet
from tests.most_support import (ANY, BLUE, HEAP, LARGE, LITTLE, LITTLE_HEAP, MANY_CHOICES, MANY_ROWS, RED, THINGS,
                                all_places, at_once, greatest, many_choices_heap, plain_sheet, some_things)
from tests.paper_support import small_heaps
from tests.support import LARGEST, all_just_tuples, chances, made_odd, shares_a_tuple, some_rows


class SheetOf(unittest.TestCase):
    def test_rows_one_behind_another(self):
        self.assertEqual(sheet_of(THINGS, (0, 2)), THINGS[0] + THINGS[2])
        self.assertEqual(sheet_of(places=(0, 1, 2, 3), things=THINGS), THINGS[0] + THINGS[1] + THINGS[2])
        for things in (THINGS, LITTLE, MANY_ROWS, MANY_CHOICES, LARGE):
            for places in all_places(things):
                self.assertEqual(sheet_of(things, places), plain_sheet(things, places))

    def test_of_none(self):
        for things in ((), ((),), THINGS):
            self.assertEqual(sheet_of(things, ()), ())
        self.assertEqual(sheet_of(((), (), ()), (0, 2)), ())
        self.assertEqual(sheet_of((((),),), (0,)), ((),))

    def test_told_is_new(self):
        for things in (THINGS, made_odd(THINGS)):
            kept = copy.deepcopy(things)
            one, other = sheet_of(things, (0, 1, 2)), sheet_of(things, (0, 1, 2))
            self.assertIs(is_sheet(one), True)
            self.assertTrue(all_just_tuples(one))
            self.assertFalse(shares_a_tuple(one, other))
            self.assertFalse(shares_a_tuple(one, things))
            self.assertEqual(things, kept)


class Most(unittest.TestCase):
    def told(self, heap, things):
        """Looks at what is told closely; the places."""
        told = most(heap, things)
        self.assertIs(type(told), tuple)
        self.assertEqual(len(told), 2)
        self.assertTrue(all_just_tuples(told))
        places, dealing = told
        self.assertEqual(places, tuple(sorted(set(places))))
        self.assertTrue(all(type(k) is int and 0 <= k < len(things) for k in places))
        self.assertIs(is_dealing(heap, plain_sheet(things, places), dealing), True)
        return places

    def test_ordinary(self):
        self.assertEqual(self.told(HEAP, THINGS), (1, 2, 3))
        self.assertEqual(most(things=THINGS, heap=HEAP), most(HEAP, THINGS))
        self.assertIn(self.told(HEAP.plus(Heap((("plate", "y", 1),))), THINGS), ((0, 2, 3), (1, 2, 3)))
        more = Heap((("plate", "y", 1), ("brick", "red", 1)))
        self.assertEqual(self.told(HEAP.plus(more), THINGS), (0, 1, 2, 3))
        self.assertEqual(self.told(Heap((("brick", "red", 1), ("plate", "x", 1))), THINGS)[1:], (3,))

    def test_no_things_and_things_of_none(self):
        for heap in (Heap(), HEAP):
            self.assertEqual(most(heap, ()), ((), ((), ())))
            self.assertEqual(most(heap, ((),)), ((0,), ((), ())))
            self.assertEqual(most(heap, ((), (), ())), ((0, 1, 2), ((), ())))
            self.assertEqual(most(heap, ((((),),), (), (((), ()),))), ((0, 1, 2), ((0, 0), ())))

    def test_a_heap_of_none(self):
        self.assertEqual(most(Heap(), THINGS), ((3,), ((), ())))
        self.assertEqual(most(Heap(), LITTLE), ((), ((), ())))
        self.assertEqual(most(Heap(), ((((RED,), ()),), (((ANY,),),))), ((0,), ((1,), ())))

    def test_one_that_wants_little_bars_two(self):
        self.assertEqual(self.told(LITTLE_HEAP, LITTLE), (1, 2))
        self.assertEqual(self.told(LITTLE_HEAP, LITTLE[1:] + LITTLE[:1]), (0, 1))
        self.assertEqual(self.told(LITTLE_HEAP, (LITTLE[1], LITTLE[0], LITTLE[2])), (0, 2))
        self.assertEqual(len(self.told(LITTLE_HEAP.less(Heap((("b", "x", 1),))), LITTLE)), 1)

    def test_alike_ones(self):
        for many, red in itertools.product(range(6), repeat=2):
            heap = Heap((("brick", "red", red),)) if red else Heap()
            self.assertEqual(len(self.told(heap, ((((RED,),),),) * many)), min(many, red))
            self.assertEqual(len(self.told(heap, ((((RED,), (BLUE,)),),) * many)), min(many, red))

    def test_by_the_way_that_leaves_enough(self):
        things = ((((RED,), (BLUE,)),), (((RED,),),))
        self.assertEqual(self.told(HEAP, things), (0, 1))
        self.assertEqual(most(HEAP, things)[1][0], (1, 0))
        self.assertEqual(self.told(HEAP, ((((RED,), (BLUE,), ()),),) * 5), (0, 1, 2, 3, 4))

    def test_several_rows_share_parts(self):
        things = ((((RED,), (BLUE,)), ((RED,), (BLUE,))), (((RED,), (BLUE,)),), (((RED, BLUE),), ((RED,),)))
        for red, blue in itertools.product(range(4), repeat=2):
            rows = tuple(("brick", shade, many) for shade, many in (("red", red), ("blue", blue)) if many)
            self.assertEqual(len(self.told(Heap(rows), things)), greatest(Heap(rows), things))

    def test_sixty_four_choices(self):
        self.assertEqual(len(choices(plain_sheet(MANY_CHOICES, range(8)))), 64)
        for blue, lime in ((6, 0), (0, 6), (2, 4), (9, 9)):
            self.assertEqual(self.told(many_choices_heap(blue, lime), MANY_CHOICES), tuple(range(8)))
        for blue, lime in ((5, 0), (0, 3), (1, 1), (0, 0), (2, 3)):
            self.assertEqual(len(self.told(many_choices_heap(blue, lime), MANY_CHOICES)), 2 + blue + lime)
        self.assertEqual(len(self.told(many_choices_heap(3, 3, things=7), MANY_CHOICES)), 7)
        self.assertEqual(len(self.told(many_choices_heap(9, 9, things=1), MANY_CHOICES)), 1)

    def test_more_than_eight_rows(self):
        self.assertGreater(len(plain_sheet(MANY_ROWS, range(4))), 8)
        for red, blue, plate in itertools.product(range(6), range(3), range(2)):
            rows = (("brick", "red", red), ("brick", "blue", blue), ("plate", "x", plate))
            heap = Heap(tuple(row for row in rows if row[2]))
            self.assertEqual(len(self.told(heap, MANY_ROWS)), greatest(heap, MANY_ROWS))

    def test_large_counts_and_forty_parts(self):
        for red, other, size in ((LARGEST, LARGEST, 2), (LARGEST + 1, LARGEST, 3), (LARGEST, LARGEST - 1, 2),
                                 (LARGEST - 1, LARGEST, 2), (1, LARGEST, 2), (1, LARGEST - 2, 1), (1, LARGEST - 1, 1)):
            self.assertEqual(len(self.told(Heap((("a", "r", red), ("a", "s", other))), LARGE)), size, (red, other))
        forty = Heap(tuple(("a", x + y, LARGEST // 40) for x in "abcde" for y in "stuvwxyz"))
        self.assertEqual(self.told(forty, LARGE), (1,))
        self.assertEqual(self.told(forty.less(Heap((("a", "as", 1),))), LARGE), ())
        self.assertEqual(self.told(forty.plus(Heap((("a", "r", LARGEST),))), LARGE), (0, 1))

    def test_small_cases_gone_through_wholly(self):
        ones = ("a", ("r",), 1), ("a", ("s",), 1), ("a", (), 1), ("a", ("r", "s"), 2)
        sheets = [((ways),) for ways in itertools.combinations([(one,) for one in ones] + [()], 2)]
        sheets += [(((one,),),) for one in ones] + [(), (((ones[0], ones[2]),), ((ones[1],), (ones[2],)))]
        seen = set()
        for size in range(3):
            for things in itertools.combinations_with_replacement(sheets, size):
                for heap in small_heaps(("a",), ("r", "s"), 2):
                    told = self.told(heap, things)
                    self.assertEqual(len(told), greatest(heap, things), (heap, things))
                    seen.add((size, len(told)))
        self.assertEqual(seen, {(size, many) for size in range(3) for many in range(size + 1)})

    def test_as_many_as_the_greatest_of_all(self):
        seen = set()
        for chance in chances(400):
            heap, things = Heap(some_rows(chance, most=5, many=2)), some_things(chance)
            told = self.told(heap, things)
            self.assertEqual(len(told), greatest(heap, things))
            seen.add((len(things), len(told)))
        self.assertTrue({(0, 0), (3, 1), (3, 2), (3, 3), (4, 1), (4, 2), (4, 3), (4, 4)} <= seen)

    def test_things_in_another_order(self):
        for chance in chances(40):
            heap, things = Heap(some_rows(chance, most=5, many=2)), some_things(chance)
            for turned in itertools.permutations(things):
                self.assertEqual(len(self.told(heap, turned)), len(self.told(heap, things)))

    def test_told_is_new_and_nothing_is_changed(self):
        for things, heap in itertools.product((THINGS, made_odd(THINGS), LITTLE, MANY_ROWS), (HEAP, Heap(), LITTLE_HEAP)):
            kept, before = copy.deepcopy(things), heap.rows()
            one, other = most(heap, things), most(heap, things)
            self.assertTrue(all_just_tuples(one))
            self.assertFalse(shares_a_tuple(one, other))
            self.assertFalse(shares_a_tuple(one, things))
            self.assertEqual((things, heap.rows()), (kept, before))
        for things in ((), ((),)):
            self.assertIsNot(most(HEAP, things), most(HEAP, things))
            self.assertIsNot(most(HEAP, things)[1], most(HEAP, things)[1])


class SoItIs(unittest.TestCase):
    """Point 45."""

    def test_each_fewer_of_them_are_built_too(self):
        for chance in chances(100):
            heap, things = Heap(some_rows(chance, most=5, many=2)), some_things(chance)
            places = most(heap, things)[0]
            for size in range(len(places) + 1):
                for fewer in itertools.combinations(places, size):
                    self.assertTrue(at_once(heap, things, fewer))
                    self.assertEqual(most(heap, tuple(things[k] for k in fewer))[0], tuple(range(size)))

    def test_a_part_more(self):
        for chance in chances(80):
            heap, things = Heap(some_rows(chance, most=4, many=2)), some_things(chance)
            places, dealing = most(heap, things)
            for form, shade in itertools.product(("a", "ab", "b", "zz"), ("blue", "re", "red", "zz")):
                more = heap.plus(Heap(((form, shade, 1),)))
                self.assertIs(is_dealing(more, sheet_of(things, places), dealing), True)
                self.assertGreaterEqual(len(most(more, things)[0]), len(places))


if __name__ == "__main__":
    unittest.main()
