"""Points 2, 3, 6 and 22: GIVENS, DEALINGS, and what is given."""

import copy
import itertools
import unittest

from partkits.dealings import given_sum, is_dealing, is_given, serves
from partkits.heaps import Heap
from partkits.sheets import choices, wants_of
from tests.paper_support import all_changed_givens, all_givens, broken_gifts, plain_serves, plain_sum
from tests.support import (LARGEST, NO_TUPLES, all_just_tuples, broken_shades, chances, counted, deep, made_odd,
                           replaced, shares_a_tuple, some_rows, some_sheet, some_want)

WANTS = (("brick", ("blue", "red"), 4), ("brick", ("red",), 1), ("plate", (), 3), ("brick", ("blue", "red"), 2))
GIVEN = ((("blue", 3), ("red", 1)), (("red", 1),), (("green", 1), ("red", 2)), (("red", 2),))
ENOUGH = (("brick", "blue", 3), ("brick", "red", 4), ("plate", "green", 1), ("plate", "red", 2))
SHEET = (((("brick", ("blue", "red"), 2), ("plate", (), 1)), (("tile", ("green",), 2),)), ((),),
         (((("brick", ("red",), 1),)), (), (("tile", (), 1),)))
SHADES = ("blue", "re", "red")
SIX = ("a", "ab", "abc", "b", "bc", "c")


class Givens(unittest.TestCase):
    def test_givens(self):
        self.assertIs(is_given(WANTS, GIVEN), True)
        self.assertIs(is_given(thing=GIVEN, wants=WANTS), True)
        for given in (((("blue", 4),), (("red", 1),), (("x", 3),), (("blue", 1), ("red", 1))),
                      ((("blue", 1), ("red", 3)), (("red", 1),), (("a", 1), ("b", 1), ("c", 1)), (("blue", 2),))):
            self.assertIs(is_given(WANTS, given), True, given)

    def test_no_wants_have_the_given_of_none(self):
        self.assertIs(is_given((), ()), True)
        for thing in NO_TUPLES + (((),), ((("red", 1),),), ("red", 1)):
            self.assertIs(is_given((), thing), False, thing)

    def test_no_givens(self):
        for wants, given in ((WANTS, GIVEN), (WANTS[:1], GIVEN[:1]), (WANTS[2:3], GIVEN[2:3]), (WANTS[1:2], GIVEN[1:2])):
            for thing in broken_gifts(given):
                self.assertIs(is_given(wants, thing), False, thing)

    def test_a_shade_that_the_want_does_not_let(self):
        for given in (replaced(GIVEN, 0, (("blue", 3), ("green", 1))), replaced(GIVEN, 1, (("blue", 1),)),
                      replaced(GIVEN, 0, (("blue", 1), ("green", 1), ("red", 2))), replaced(GIVEN, 3, (("re", 2),)),
                      replaced(GIVEN, 3, (("reds", 2),)), replaced(GIVEN, 0, (("blu", 4),))):
            self.assertIs(is_given(WANTS, given), False, given)

    def test_gifts_in_another_order_are_others(self):
        for turned in itertools.permutations(GIVEN):
            self.assertIs(is_given(WANTS, turned), turned == GIVEN, turned)

    def test_true_is_no_one(self):
        self.assertIs(is_given((("a", ("red",), 1),), ((("red", 1),),)), True)
        self.assertIs(is_given((("a", ("red",), 1),), ((("red", True),),)), False)
        self.assertIs(is_given((("a", (), 2),), ((("blue", True), ("red", 1)),)), False)
        self.assertIs(is_given((("a", (), 1),), ((("blue", False), ("red", 1)),)), False)

    def test_manys_below_nought_do_not_make_up_for_others(self):
        for many in (0, -1, -LARGEST):
            self.assertIs(is_given((("a", (), 3),), ((("blue", many), ("red", 3 - many)),)), False)

    def test_each_shade_once_and_rising(self):
        wants = (("a", SIX, 6),)
        self.assertIs(is_given(wants, (tuple((shade, 1) for shade in SIX),)), True)
        self.assertIs(is_given(wants, (tuple((shade, 1) for shade in SIX[::-1]),)), False)
        self.assertIs(is_given(wants, ((("a", 1), ("a", 2), ("b", 3)),)), False)
        self.assertIs(is_given(wants, ((("a", 3), ("a", 3)),)), False)
        self.assertIs(is_given(wants, ((("b", 1), ("ab", 5)),)), False)

    def test_large_manys(self):
        wants = (("a", SIX, LARGEST),) * 48
        self.assertIs(is_given(wants, ((("a", LARGEST - 1), ("c", 1)),) * 48), True)
        self.assertIs(is_given(wants, ((("a", LARGEST - 1), ("c", 2)),) * 48), False)
        self.assertIs(is_given(wants, ((("a", LARGEST),),) * 47), False)
        self.assertIs(is_given((("a", (), 10 ** 199),), ((("a", 10 ** 199),),)), True)

    def test_all_small_ones(self):
        wants = (("a", ("blue", "red"), 2), ("b", (), 1))
        right = set(all_givens(wants, SHADES))
        others = list(all_changed_givens(wants, SHADES))
        self.assertEqual(len(right), 9)
        for given in others:
            self.assertIs(is_given(wants, given), given in right, given)

    def test_things_as_large_and_as_deep_as_any(self):
        for thing in (deep(20, 1), deep(20, 1, True), (1,) * 4999, "a" * 4000, ((("red", 1),) * 1200,),
                      (deep(18, ()),) * 4):
            self.assertIs(is_given(WANTS, thing), False)


class Serving(unittest.TestCase):
    def test_just_enough(self):
        self.assertIs(serves(Heap(ENOUGH), WANTS, GIVEN), True)
        self.assertIs(serves(Heap(ENOUGH + (("tile", "red", 1), ("brick", "red", 1))), WANTS, GIVEN), True)
        self.assertIs(serves(given=GIVEN, wants=WANTS, heap=Heap(ENOUGH)), True)

    def test_one_fewer(self):
        for at in range(len(ENOUGH)):
            heap = Heap(ENOUGH).less(Heap((ENOUGH[at][:2] + (1,),)))
            self.assertIs(serves(heap, WANTS, GIVEN), False, ENOUGH[at])
            other = heap.plus(Heap((("wheel", ENOUGH[at][1], 9), (ENOUGH[at][0], "lime", 9))))
            self.assertIs(serves(other, WANTS, GIVEN), False)

    def test_none(self):
        self.assertIs(serves(Heap(), (), ()), True)
        self.assertIs(serves(Heap(ENOUGH), (), ()), True)
        self.assertIs(serves(Heap(), WANTS, GIVEN), False)

    def test_changed_givens_are_of_the_wants_form_all_the_same(self):
        given = replaced(GIVEN, 1, (("lime", 1),))
        self.assertIs(serves(Heap(ENOUGH), WANTS, given), False)
        self.assertIs(serves(Heap(ENOUGH + (("plate", "lime", 1),)), WANTS, given), False)
        self.assertIs(serves(Heap(ENOUGH + (("brick", "lime", 1),)), WANTS, given), True)

    def test_large_manys(self):
        wants = (("a", (), LARGEST),) * 48
        given = ((("red", LARGEST),),) * 48
        self.assertIs(serves(Heap((("a", "red", 48 * LARGEST),)), wants, given), True)
        self.assertIs(serves(Heap((("a", "red", 48 * LARGEST - 1),)), wants, given), False)

    def test_against_the_plain_telling(self):
        seen = set()
        for chance in chances(60):
            wants = tuple(some_want(chance) for at in range(chance.randint(0, 3)))
            rows = some_rows(chance, most=8)
            for given in all_changed_givens(wants, SHADES):
                told = serves(Heap(rows), wants, given)
                self.assertIs(told, plain_serves(counted(rows), wants, given))
                seen.add(told)
        self.assertEqual(seen, {True, False})


class Sums(unittest.TestCase):
    def test_sum(self):
        self.assertEqual(given_sum(WANTS, GIVEN), Heap(ENOUGH))
        self.assertEqual(given_sum(given=GIVEN, wants=WANTS).rows(), ENOUGH)
        self.assertIsInstance(given_sum(WANTS, GIVEN), Heap)
        self.assertEqual(given_sum((), ()), Heap())

    def test_of_changed_givens(self):
        given = replaced(GIVEN, 1, (("lime", 1),))
        self.assertEqual(given_sum(WANTS, given).rows(), (("brick", "blue", 3), ("brick", "lime", 1),
                                                          ("brick", "red", 3)) + ENOUGH[2:])

    def test_beyond_the_bounds(self):
        wants = (("a", SIX, LARGEST),) * 48
        self.assertEqual(given_sum(wants, ((("a", LARGEST),),) * 48).rows(), (("a", "a", 48 * LARGEST),))

    def test_against_the_plain_telling(self):
        for chance in chances(60):
            wants = tuple(some_want(chance) for at in range(chance.randint(0, 3)))
            for given in all_changed_givens(wants, SHADES):
                told = given_sum(wants, given)
                self.assertEqual(counted(told.rows()), plain_sum(wants, given))
                self.assertEqual(sum(many for form, shade, many in told.rows()), sum(want[2] for want in wants))


class Dealings(unittest.TestCase):
    def setUp(self):
        self.heap = Heap((("brick", "blue", 1), ("brick", "red", 2), ("plate", "lime", 1), ("tile", "green", 2)))
        self.dealing = ((0, 0, 1), ((("blue", 1), ("red", 1)), (("lime", 1),)))

    def test_by_several_choices(self):
        for dealing in (self.dealing, ((0, 0, 1), ((("red", 2),), (("lime", 1),))), ((1, 0, 1), ((("green", 2),),)),
                        ((0, 0, 2), ((("red", 2),), (("lime", 1),), (("green", 1),)))):
            self.assertIs(is_dealing(self.heap, SHEET, dealing), True, dealing)
        self.assertIs(is_dealing(thing=self.dealing, sheet=SHEET, heap=self.heap), True)

    def test_a_given_that_is_not_served(self):
        self.assertIs(is_dealing(self.heap, SHEET, ((1, 0, 2), ((("green", 2),), (("green", 1),)))), False)
        self.assertIs(is_dealing(self.heap, SHEET, ((0, 0, 1), ((("red", 2),), (("red", 1),)))), False)
        self.assertIs(is_dealing(Heap(), SHEET, self.dealing), False)
        for form, shade, many in self.heap.rows()[:3]:
            fewer = self.heap.less(Heap(((form, shade, 1),)))
            self.assertIs(is_dealing(fewer, SHEET, self.dealing), (form, shade) == ("brick", "red"))

    def test_a_given_by_another_choice(self):
        for choice in choices(SHEET):
            told = is_dealing(self.heap, SHEET, (choice, self.dealing[1]))
            self.assertIs(told, choice == (0, 0, 1), choice)

    def test_no_choices(self):
        for choice in ((0, 0), (0, 0, 1, 0), (0, 1, 1), (2, 0, 1), (0, 0, 3), (0, 0, -2), (-2, 0, 1), (0, -1, 1),
                       (False, 0, 1), (0, 0, True), (0, False, True), [0, 0, 1], (0, (0,), 1), ("0", 0, 1),
                       (None, 0, 1), (0, 0, [1]), ((0, 0, 1),), (), None, 0, True, "001", Heap(), (0, 0, Heap()),
                       (10 ** 199, 0, 1)):
            self.assertIs(is_dealing(self.heap, SHEET, (choice, self.dealing[1])), False, choice)
        self.assertIs(is_dealing(self.heap, SHEET, ((1, 0, True), ((("green", 2),),))), False)

    def test_no_dealings(self):
        choice, given = self.dealing
        things = list(NO_TUPLES) + [(), (choice,), (given,), (choice, given, ()), [choice, given], (given, choice),
                                    (self.dealing,), choice, given, deep(15, self.dealing), (choice, choice)]
        things += [(choice, wrong) for wrong in broken_gifts(given)]
        for thing in things:
            self.assertIs(is_dealing(self.heap, SHEET, thing), False, thing)

    def test_the_sheet_of_none(self):
        for heap in (Heap(), self.heap):
            self.assertIs(is_dealing(heap, (), ((), ())), True)
            self.assertIs(is_dealing(heap, (((),),), ((0,), ())), True)
            self.assertIs(is_dealing(heap, (((),),), ((), ())), False)
            for thing in ((), ((),), ((), (), ()), ((0,), ()), ((), ((),)), [(), ()], ([], ()), ((), [])):
                self.assertIs(is_dealing(heap, (), thing), False, thing)

    def test_all_small_ones(self):
        seen = set()
        for chance in chances(40):
            rows, sheet = some_rows(chance), some_sheet(chance, rows=2, wants=1)
            for choice in itertools.product((-1, 0, 1, 2), repeat=len(sheet)):
                right = choice in choices(sheet)
                wants = wants_of(sheet, choice) if right else wants_of(sheet)
                for given in all_givens(wants, SHADES):
                    told = is_dealing(Heap(rows), sheet, (choice, given))
                    self.assertIs(told, right and plain_serves(counted(rows), wants, given))
                    seen.add(told)
        self.assertEqual(seen, {True, False})


class Own(unittest.TestCase):
    def test_nothing_handed_in_is_changed(self):
        heap = Heap(ENOUGH)
        thing = ([[["blue", 3], ("red", 1)]], [(("red", [1]),)])
        for handed in (thing, list(GIVEN), (list(WANTS), thing)):
            kept = copy.deepcopy(handed)
            for ask in (lambda: is_given(WANTS, handed), lambda: is_dealing(heap, SHEET, handed),
                        lambda: is_dealing(heap, SHEET, ((0, 0, 0), handed))):
                self.assertIs(ask(), False)
                self.assertEqual(handed, kept)
        self.assertEqual(heap, Heap(ENOUGH))

    def test_looks_tell_truths_of_odd_tuples_too(self):
        self.assertIs(is_given(made_odd(WANTS), made_odd(GIVEN)), True)
        self.assertTrue(all_just_tuples(given_sum(made_odd(WANTS), made_odd(GIVEN)).rows()))
        self.assertFalse(shares_a_tuple(given_sum(WANTS, GIVEN).rows(), GIVEN))

    def test_shades_are_looked_at_throughout(self):
        for shades in broken_shades(("blue", "red")):
            if isinstance(shades, tuple):
                gift = tuple((shade, 1) for shade in shades)
                self.assertIs(is_given((("a", (), len(gift)),), (gift,)), False, gift)


if __name__ == "__main__":
    unittest.main()
