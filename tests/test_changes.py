"""Points 25 and 27: CHANGED GIVENS, and the fewest PARTS of another SHADE."""

import copy
import unittest

from partkits.barchecker import lets_bar
from partkits.changechecker import lets_changed
from partkits.changes import changed, changes_in, is_changed
from partkits.dealing import deal
from partkits.dealings import is_given, serves
from partkits.errors import NoDealing
from partkits.heaps import Heap
from tests.paper_support import (Refusals, all_changed_givens, all_givens, broken_gifts, plain_changes, plain_serves,
                                 small_heaps, small_wants)
from tests.support import (LARGEST, NO_TUPLES, all_just_tuples, chances, counted, deep, made_odd, replaced,
                           shares_a_tuple, some_rows, some_want)

WANTS = (("brick", ("blue", "red"), 4), ("brick", ("red",), 1), ("plate", (), 3))
GIVEN = ((("blue", 1), ("lime", 2), ("red", 1)), (("blue", 1),), (("green", 1), ("red", 2)))
SHADES = ("blue", "re", "red")


class Looks(unittest.TestCase):
    def test_changed_givens(self):
        self.assertIs(is_changed(WANTS, GIVEN), True)
        self.assertIs(is_changed(thing=GIVEN, wants=WANTS), True)
        self.assertIs(is_changed(WANTS, ((("x", 4),), (("abcdefgh", 1),), (("y", 3),))), True)
        self.assertIs(is_changed((), ()), True)

    def test_each_given_is_one(self):
        for given in all_givens(WANTS, ("blue", "x")):
            self.assertIs(is_changed(WANTS, given), True)

    def test_no_changed_givens(self):
        for wants, given in ((WANTS, GIVEN), (WANTS[1:2], GIVEN[1:2]), ((), ())):
            for thing in broken_gifts(given):
                self.assertIs(is_changed(wants, thing), False, thing)
        for thing in NO_TUPLES + (deep(20, 1), deep(20, 1, True), (1,) * 4999, GIVEN[:2], GIVEN + GIVEN[:1]):
            self.assertIs(is_changed(WANTS, thing), False)

    def test_true_is_no_one(self):
        self.assertIs(is_changed(WANTS, replaced(GIVEN, 1, (("blue", True),))), False)
        self.assertIs(is_changed(WANTS, replaced(GIVEN, 2, (("green", True), ("red", 2)))), False)

    def test_nothing_handed_in_is_changed(self):
        thing = [[("blue", 1), ["lime", 3]], (("red", [1]),)]
        kept = copy.deepcopy(thing)
        for handed in (thing, tuple(thing), thing[0]):
            self.assertIs(is_changed(WANTS, handed), False)
        self.assertEqual(thing, kept)


class Counted(unittest.TestCase):
    def test_changes(self):
        self.assertEqual(changes_in(WANTS, GIVEN), 3)
        self.assertEqual(changes_in(given=GIVEN, wants=WANTS), 3)
        self.assertEqual(changes_in((), ()), 0)
        self.assertEqual(changes_in(WANTS, ((("x", 4),), (("x", 1),), (("x", 3),))), 5)
        self.assertEqual(changes_in(WANTS, ((("re", 3), ("reds", 1)), (("red", 1),), (("x", 3),))), 4)
        self.assertIs(type(changes_in(WANTS, GIVEN)), int)

    def test_givens_have_none(self):
        for given in all_givens(WANTS, ("blue", "x")):
            self.assertEqual(changes_in(WANTS, given), 0)

    def test_large_ones(self):
        wants = (("a", ("r",), LARGEST),) * 48
        self.assertEqual(changes_in(wants, ((("s", LARGEST),),) * 48), 48 * LARGEST)
        self.assertEqual(changes_in(wants, ((("r", 1), ("s", LARGEST - 1)),) * 48), 48 * LARGEST - 48)

    def test_none_just_where_it_is_a_given(self):
        for chance in chances(60):
            wants = tuple(some_want(chance) for at in range(chance.randint(0, 3)))
            for given in all_changed_givens(wants, SHADES):
                told = changes_in(wants, given)
                self.assertEqual(told, plain_changes(wants, given))
                self.assertIs(is_given(wants, given), told == 0)
                self.assertIs(is_changed(wants, given), True)


class Fewest(unittest.TestCase, Refusals):
    def changes_told(self, heap, wants):
        """Looks at what is told closely; None where it is refused."""
        try:
            told = changed(heap, wants)
        except NoDealing as refusal:
            self.assertIsNone(refusal.paper[1])
            self.assertIs(lets_bar(heap, wants, refusal.paper), True)
            self.assertEqual(deal(heap, wants)[0], "bar")
            return None
        self.assertIs(type(told), tuple)
        changes, given, sets = told
        self.assertIs(type(changes), int)
        self.assertTrue(all_just_tuples(told))
        self.assertIs(is_changed(wants, given), True)
        self.assertIs(serves(heap, wants, given), True)
        self.assertIs(plain_serves(counted(heap.rows()), wants, given), True)
        self.assertEqual(changes_in(wants, given), changes)
        self.assertEqual(lets_changed(heap, wants, (given, sets)), changes)
        self.assertEqual(changes == 0, deal(heap, wants)[0] == "dealt")
        return changes

    def test_changes(self):
        heap = Heap((("brick", "lime", 5), ("brick", "red", 2), ("plate", "x", 3)))
        self.assertEqual(self.changes_told(heap, WANTS), 3)
        self.assertEqual(self.changes_told(heap, WANTS[:1]), 2)
        self.assertEqual(self.changes_told(heap, WANTS[1:]), 0)
        self.assertEqual(changed(wants=WANTS, heap=heap)[0], 3)

    def test_only_one_fits(self):
        heap = Heap((("a", "r", 1), ("a", "s", 2)))
        self.assertEqual(changed(heap, (("a", ("r",), 3),)), (2, ((("r", 1), ("s", 2)),), (("a", ("r",)),)))
        self.assertEqual(changed(heap, (("a", ("r", "s"), 3),))[:2], (0, ((("r", 1), ("s", 2)),)))
        self.assertEqual(changed(Heap(), ())[:2], (0, ()))

    def test_any_takes_what_others_leave(self):
        heap = Heap((("a", "r", 2), ("a", "s", 2)))
        for wants in ((("a", (), 2), ("a", ("r",), 2)), (("a", ("r",), 2), ("a", (), 2))):
            self.assertEqual(self.changes_told(heap, wants), 0)
        for wants in ((("a", (), 1), ("a", ("r",), 3)), (("a", ("r",), 3), ("a", (), 1))):
            self.assertEqual(self.changes_told(heap, wants), 1)

    def test_each_form_by_itself(self):
        heap = Heap((("a", "r", 3), ("b", "s", 3)))
        wants = (("b", ("r",), 2), ("a", ("s",), 1), ("a", ("r",), 2), ("b", (), 1))
        self.assertEqual(self.changes_told(heap, wants), 3)
        self.assertEqual(self.changes_told(heap, wants[:1]) + self.changes_told(heap, wants[1:3]), 3)

    def test_no_wants_and_a_heap_of_none(self):
        self.assertEqual(self.changes_told(Heap(), ()), 0)
        self.assertEqual(self.changes_told(Heap((("a", "r", 1),)), ()), 0)
        self.assertIsNone(self.changes_told(Heap(), WANTS))

    def test_refused_where_a_form_has_too_few(self):
        heap = Heap((("brick", "lime", 5), ("plate", "x", 3)))
        self.assertEqual(self.changes_told(heap, WANTS), 5)
        for form, shade in (("brick", "lime"), ("plate", "x")):
            fewer = heap.less(Heap(((form, shade, 1),)))
            with self.assertRaises(NoDealing) as caught:
                changed(fewer, WANTS)
            self.assertEqual(caught.exception.paper, (form, None))
            self.assertIs(type(caught.exception.paper), tuple)
            other = fewer.plus(Heap((("tile", "lime", 9), ("lime", form, 9))))
            self.assertIsNone(self.changes_told(other, WANTS))
            self.assert_families(NoDealing, lambda: changed(fewer, WANTS))
            self.assertEqual(fewer, heap.less(Heap(((form, shade, 1),))))

    def test_a_form_that_the_heap_has_not(self):
        for wants in ((("tile", (), 1),), (("tile", ("red",), 1),), WANTS + (("tile", ("red",), 1),)):
            with self.assertRaises(NoDealing) as caught:
                changed(Heap((("brick", "red", 9), ("plate", "red", 9))), wants)
            self.assertEqual(caught.exception.paper, ("tile", None))

    def test_large_ones(self):
        six = ("a", "b", "c", "d", "e", "f")
        wants = tuple(("x", six[at % 5:at % 5 + 2], LARGEST) for at in range(40)) + (("x", six, LARGEST),) * 8
        heap = Heap(tuple(("x", shade, 8 * LARGEST) for shade in six))
        self.assertEqual(self.changes_told(heap, wants), 0)
        less = heap.less(Heap((("x", "a", 3 * LARGEST),)))
        self.assertIsNone(self.changes_told(less, wants))
        self.assertEqual(self.changes_told(less.plus(Heap((("x", "z", 3 * LARGEST),))), wants), 3 * LARGEST)
        forty = Heap(tuple(("x", "s" + a + b, LARGEST) for a in "abcde" for b in "stuvwxyz"))
        self.assertEqual(self.changes_told(forty, tuple(("x", six, LARGEST - at) for at in range(40))),
                         40 * LARGEST - 780)

    def test_the_least_of_all(self):
        for shades, most, manys, size in ((("r", "s"), 3, (1, 2), 3), (("r", "s", "t"), 1, (1,), 3)):
            seen = set()
            cases = small_wants(("a",), shades, manys, size)
            for heap in small_heaps(("a",), shades, most):
                counts = counted(heap.rows())
                for wants in cases:
                    plain = [plain_changes(wants, given) for given in all_changed_givens(wants, shades)
                             if plain_serves(counts, wants, given)]
                    told = self.changes_told(heap, wants)
                    self.assertEqual(told, min(plain) if plain else None, (heap, wants))
                    seen.add(told)
            self.assertTrue({None, 0, 1, 2} <= seen)

    def test_the_least_of_all_of_several_forms(self):
        seen = set()
        for chance in chances(200):
            heap = Heap(some_rows(chance, most=8))
            wants = tuple(some_want(chance) for at in range(chance.randint(1, 3)))
            plain = [plain_changes(wants, given) for given in all_changed_givens(wants, SHADES)
                     if plain_serves(counted(heap.rows()), wants, given)]
            told = self.changes_told(heap, wants)
            self.assertEqual(told, min(plain) if plain else None)
            seen.add(told)
        self.assertTrue({None, 0, 1, 2} <= seen)

    def test_told_is_new_and_nothing_is_changed(self):
        for wants in (WANTS, made_odd(WANTS)):
            heap = Heap((("brick", "lime", 5), ("brick", "red", 2), ("plate", "x", 3)))
            one, other = changed(heap, wants), changed(heap, wants)
            self.assertTrue(all_just_tuples(one))
            self.assertFalse(shares_a_tuple(one, other))
            self.assertFalse(shares_a_tuple(one, wants))
            self.assertEqual(heap.rows(), (("brick", "lime", 5), ("brick", "red", 2), ("plate", "x", 3)))


if __name__ == "__main__":
    unittest.main()
