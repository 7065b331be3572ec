"""Points 43 to 46: one THING more beside others, and all that can be built AT ONCE with these."""

import copy
import itertools
import unittest

from partkits.casechecker import lets_cases
from partkits.dealings import is_dealing
from partkits.errors import HeapError, NoPaper, NoThing
from partkits.heaps import Heap
from partkits.most import sheet_of
from partkits.onemore import joinable, one_more
from partkits.sheets import choices
from tests.most_support import (ANY, BLUE, HEAP, LARGE, LITTLE, LITTLE_HEAP, MANY_CHOICES, MANY_ROWS, RED, THINGS,
                                all_places, at_once, many_choices_heap, one_row, some_things)
from tests.paper_support import Refusals, small_heaps
from tests.support import (LARGEST, LONGEST_NUMBER, NO_NUMBERS, all_just_tuples, chances, deep, made_odd, shares_a_tuple,
                           some_rows)


def plain_joinable(heap, things, places):
    """What joinable tells, each of the others tried."""
    others = [k for k in range(len(things)) if k not in places]
    return tuple(k for k in others if at_once(heap, things, tuple(sorted(places + (k,)))))


class OneMore(unittest.TestCase, Refusals):
    def dealt(self, heap, things, places, k):
        """Looks at what is told closely; True where it is a DEALING."""
        told = one_more(heap, things, places, k)
        self.assertIs(type(told), tuple)
        self.assertEqual(len(told), 2)
        self.assertTrue(all_just_tuples(told))
        sheet = sheet_of(things, tuple(sorted(places + (k,))))
        if told[0] == "dealt":
            self.assertIs(is_dealing(heap, sheet, told[1]), True)
            return True
        self.assertEqual(told[0], "cases")
        self.assertGreater(lets_cases(heap, sheet, told[1]), 0)
        return False

    def test_ordinary(self):
        self.assertTrue(self.dealt(HEAP, THINGS, (1,), 2))
        self.assertTrue(self.dealt(HEAP, THINGS, (), 0))
        self.assertTrue(self.dealt(HEAP, THINGS, (1, 2), 3))
        self.assertFalse(self.dealt(HEAP, THINGS, (1, 2), 0))
        self.assertFalse(self.dealt(HEAP, THINGS, (1, 2, 3), 0))
        self.assertEqual(one_more(k=2, places=(1,), things=THINGS, heap=HEAP), one_more(HEAP, THINGS, (1,), 2))

    def test_the_sheet_of_these_rises_wherever_the_one_more_stands(self):
        given = ((("red", 1),), (("blue", 1),), (("x", 1),))
        self.assertEqual(one_more(HEAP, THINGS, (2,), 1), ("dealt", ((0, 0, 1), given)))
        self.assertEqual(one_more(HEAP, THINGS, (1,), 2), ("dealt", ((0, 0, 1), given)))
        things = (one_row((("c", (), 1),)), one_row((("b", (), 1),)), one_row((("a", (), 1),)))
        heap = Heap((("a", "x", 1), ("b", "y", 1), ("c", "z", 1)))
        for k in range(3):
            others = tuple(own for own in range(3) if own != k)
            given = ((("z", 1),), (("y", 1),), (("x", 1),))
            self.assertEqual(one_more(heap, things, others, k), ("dealt", ((0, 0, 0), given)))

    def test_a_case_tree_names_the_rows_of_all_together(self):
        things = (one_row((BLUE,)), one_row((ANY,)) + one_row((RED,), (BLUE,)))
        heap = Heap((("brick", "blue", 1), ("plate", "x", 1)))
        tree = ("row", 2, ("bar", "brick", ("red",)), ("bar", "brick", ("blue",)))
        self.assertEqual(one_more(heap, things, (0,), 1), ("cases", tree))
        self.assertEqual(one_more(heap, things, (1,), 0), ("cases", tree))

    def test_things_that_are_the_sheet_of_none(self):
        self.assertEqual(one_more(Heap(), ((),), (), 0), ("dealt", ((), ())))
        self.assertEqual(one_more(Heap(), ((), (), ()), (0, 2), 1), ("dealt", ((), ())))
        self.assertEqual(one_more(Heap(), (one_row(()),), (), 0), ("dealt", ((0,), ())))
        self.assertFalse(self.dealt(Heap(), THINGS, (), 0))
        self.assertFalse(self.dealt(Heap(), THINGS, (0, 1, 2), 3))

    def test_sixty_four_choices_more_rows_large_counts(self):
        self.assertEqual(len(choices(sheet_of(MANY_CHOICES, tuple(range(8))))), 64)
        for k in (0, 3, 7):
            others = tuple(own for own in range(8) if own != k)
            self.assertTrue(self.dealt(many_choices_heap(4, 2), MANY_CHOICES, others, k))
            self.assertFalse(self.dealt(many_choices_heap(3, 2), MANY_CHOICES, others, k))
        self.assertTrue(self.dealt(Heap((("brick", "blue", 2), ("brick", "red", 4))), MANY_ROWS, (0, 1, 3), 2))
        self.assertFalse(self.dealt(Heap((("brick", "blue", 1), ("brick", "red", 4))), MANY_ROWS, (0, 1, 3), 2))
        for more in (0, 1):
            heap = Heap((("a", "r", LARGEST + more), ("a", "s", LARGEST)))
            self.assertIs(self.dealt(heap, LARGE, (0, 1), 2), more == 1)

    def test_dealt_just_where_they_are_built_at_once(self):
        seen = {True: 0, False: 0}
        for chance in chances(120):
            heap, things = Heap(some_rows(chance, most=5, many=2)), some_things(chance)
            for places in all_places(things):
                for k in set(range(len(things))) - set(places):
                    built = at_once(heap, things, tuple(sorted(places + (k,))))
                    self.assertIs(self.dealt(heap, things, places, k), built)
                    seen[built] += 1
        self.assertTrue(seen[True] > 100 and seen[False] > 100)

    def test_refused_where_it_is_no_place_or_among_the_places(self):
        odd = NO_NUMBERS + (-1, -2, -4, 4, 5, LARGEST, LONGEST_NUMBER, -LONGEST_NUMBER, 2, 3, (0,), [0], "0", "thing",
                            b"0", deep(20, 0), deep(20, 0, True), deep(5000, 0), Heap(), HEAP, (True,), THINGS[0])
        for wrong in odd:
            with self.assertRaises(NoThing) as caught:
                one_more(HEAP, THINGS, (2, 3), wrong)
            self.assertIs(caught.exception.name, wrong)
        for places in all_places(THINGS):
            for k in places:
                with self.assertRaises(NoThing) as caught:
                    one_more(HEAP, THINGS, places, k)
                self.assertEqual((caught.exception.name, type(caught.exception.name)), (k, int))
        for wrong in (0, -1, None):
            with self.assertRaises(NoThing):
                one_more(HEAP, (), (), wrong)

    def test_true_is_no_one(self):
        for wrong in (True, False):
            with self.assertRaises(NoThing) as caught:
                one_more(HEAP, THINGS, (), wrong)
            self.assertIs(caught.exception.name, wrong)
        self.assertEqual(one_more(HEAP, THINGS, (), 1)[0], "dealt")

    def test_taken_by_its_families_alone(self):
        for wrong in (True, 4, -1, 2, "red", None, (), []):
            self.assert_families(NoThing, lambda: one_more(HEAP, THINGS, (2,), wrong), HeapError)

    def test_new_and_nothing_is_changed(self):
        for things, heap in itertools.product((THINGS, made_odd(THINGS)), (HEAP, Heap(), HEAP.plus(HEAP))):
            kept, before = copy.deepcopy(things), heap.rows()
            for places, k in (((), 0), ((0,), 2), ((1, 2), 0), ((), 3)):
                one, other = one_more(heap, things, places, k), one_more(heap, things, places, k)
                self.assertTrue(all_just_tuples(one))
                self.assertFalse(shares_a_tuple(one, other))
                self.assertFalse(shares_a_tuple(one, things))
            wrong = [0, [1]]
            with self.assertRaises(NoThing):
                one_more(heap, things, (0,), wrong)
            self.assertEqual((things, heap.rows(), wrong), (kept, before, [0, [1]]))

    def test_handed_in_again(self):
        tree = one_more(Heap(), THINGS, (1, 2), 0)[1]
        self.assertGreater(lets_cases(Heap(), sheet_of(THINGS, (0, 1, 2)), tree), 0)
        with self.assertRaises(NoPaper):
            lets_cases(HEAP.plus(HEAP), sheet_of(THINGS, (0, 1, 2)), tree)


class Joinable(unittest.TestCase):
    def told(self, heap, things, places):
        """What is told, looked at closely."""
        told = joinable(heap, things, places)
        self.assertIs(type(told), tuple)
        self.assertTrue(all(type(k) is int for k in told))
        self.assertEqual(told, tuple(sorted(set(told) - set(places))))
        return told

    def test_ordinary(self):
        self.assertEqual(self.told(HEAP, THINGS, ()), (0, 1, 2, 3))
        self.assertEqual(self.told(HEAP, THINGS, (0,)), (3,))
        self.assertEqual(self.told(HEAP, THINGS, (1,)), (2, 3))
        self.assertEqual(self.told(HEAP, THINGS, (3,)), (0, 1, 2))
        self.assertEqual(self.told(HEAP, THINGS, (1, 2)), (3,))
        self.assertEqual(joinable(places=(2,), things=THINGS, heap=HEAP), (1, 3))

    def test_each_of_them_alone_beside_these(self):
        self.assertEqual(self.told(LITTLE_HEAP, LITTLE, ()), (0, 1, 2))
        self.assertEqual(self.told(LITTLE_HEAP, LITTLE, (0,)), ())
        self.assertEqual(self.told(LITTLE_HEAP, LITTLE, (1,)), (2,))
        heap = Heap((("brick", "red", 2),))
        self.assertEqual(self.told(heap, (one_row((RED,)),) * 4, (1,)), (0, 2, 3))
        self.assertEqual(self.told(heap, (one_row((RED,)),) * 4, (1, 2)), ())

    def test_all_and_none(self):
        for things in ((), THINGS, LITTLE, ((), ())):
            self.assertEqual(self.told(HEAP.plus(HEAP), things, tuple(range(len(things)))), ())
        self.assertEqual(self.told(Heap(), (), ()), ())
        self.assertEqual(self.told(Heap(), ((), (), ()), (1,)), (0, 2))
        self.assertEqual(self.told(Heap(), THINGS, ()), (3,))

    def test_where_these_themselves_can_not(self):
        self.assertEqual(self.told(HEAP, THINGS, (0, 2)), ())
        self.assertEqual(self.told(HEAP, THINGS, (0, 1)), ())
        self.assertEqual(self.told(Heap(), THINGS, (0,)), ())
        self.assertEqual(self.told(Heap(), (one_row((RED,)), (), one_row(())), (0,)), ())

    def test_edges(self):
        others = tuple(range(1, 7))
        self.assertEqual(self.told(many_choices_heap(5, 0), MANY_CHOICES, others), (7,))
        self.assertEqual(self.told(many_choices_heap(2, 4), MANY_CHOICES, others), (0, 7))
        self.assertEqual(self.told(many_choices_heap(2, 2), MANY_CHOICES, others), ())
        self.assertEqual(self.told(Heap((("brick", "blue", 2), ("brick", "red", 4))), MANY_ROWS, (1, 3)), (0, 2))
        self.assertEqual(self.told(Heap((("a", "r", LARGEST), ("a", "s", LARGEST))), LARGE, (0,)), (1, 2))
        self.assertEqual(self.told(Heap((("a", "r", LARGEST), ("a", "s", LARGEST - 1))), LARGE, (0,)), ())
        forty = Heap(tuple(("a", x + y, LARGEST // 40) for x in "abcde" for y in "stuvwxyz"))
        self.assertEqual(self.told(forty, LARGE, ()), (1,))
        self.assertEqual(self.told(forty.plus(Heap((("a", "r", 1),))), LARGE, (2,)), (1,))

    def test_small_cases_gone_through_wholly(self):
        one, other, any_shade = ("a", ("r",), 1), ("a", ("s",), 1), ("a", (), 1)
        sheets = (one_row((one,)), one_row((one,), (other,)), one_row((any_shade,)) + one_row((other,), ()),
                  one_row((one, other)))
        seen = set()
        for things in itertools.combinations_with_replacement(sheets, 3):
            for heap in small_heaps(("a",), ("r", "s"), 2):
                for places in all_places(things):
                    told = self.told(heap, things, places)
                    self.assertEqual(told, plain_joinable(heap, things, places))
                    seen.add((len(places), len(told)))
        self.assertTrue({(0, 3), (0, 0), (1, 2), (1, 1), (1, 0), (2, 1), (2, 0), (3, 0)} <= seen)

    def test_just_those_that_are_built_at_once_with_these(self):
        for chance in chances(120):
            heap, things = Heap(some_rows(chance, most=5, many=2)), some_things(chance)
            for places in all_places(things):
                self.assertEqual(self.told(heap, things, places), plain_joinable(heap, things, places))

    def test_nobody_that_is_left_out_is_built_with_these_and_more(self):
        left_out = 0
        for chance in chances(60):
            heap, things = Heap(some_rows(chance, most=5, many=2)), some_things(chance)
            for places in all_places(things):
                told = joinable(heap, things, places)
                for more in all_places(things):
                    if set(places) < set(more) and not set(more) <= set(places + told):
                        self.assertFalse(at_once(heap, things, more))
                        left_out += 1
                bigger = heap.plus(Heap((("a", "red", 1), ("ab", "blue", 1))))
                self.assertLessEqual(set(told), set(joinable(bigger, things, places)))
        self.assertGreater(left_out, 100)

    def test_new_and_nothing_is_changed(self):
        things, heap, places = copy.deepcopy(THINGS), Heap(HEAP.rows()), (1,)
        one, other = joinable(heap, things, places), joinable(heap, things, places)
        self.assertIsNot(one, other)
        self.assertEqual((things, heap, places), (THINGS, HEAP, (1,)))
        self.assertTrue(all_just_tuples(joinable(heap, made_odd(things), made_odd(places))))


if __name__ == "__main__":
    unittest.main()
