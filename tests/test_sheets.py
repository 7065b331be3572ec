"""Points 2, 3, 6, 14, 15 and 16: SHEETS."""

import copy
import itertools
import unittest

from partkits.sheets import choices, is_plain, is_sheet, is_want, is_way, joined, tidy, wants_of
from tests.support import (LARGEST, MANYS, WORDS, all_just_tuples, broken_sheet, broken_want, broken_way, chances,
                           deep, made_odd, shares_a_tuple, some_sheet)

RED = ("brick", ("red",), 3)
MIXED = ("brick", ("blue", "red"), 2)
ANY = ("plate", (), 1)
BARN = (((MIXED, ANY), (RED,)), ((ANY,),), ((), (RED, ANY), (MIXED,)))
PLAIN = (((RED, ANY),), ((),), ((MIXED,),))
SIX_SHADES = ("a", "ab", "abc", "b", "bc", "c")
LARGE = tuple(tuple(tuple(("form", SIX_SHADES, LARGEST) for want in range(6)) for way in range(ways))
              for ways in (2, 1, 2, 1, 2, 2, 2, 2))


class Wants(unittest.TestCase):
    def test_wants(self):
        for want in (RED, MIXED, ANY, ("a", ("a", "ab", "abc"), 1), ("abcdefgh", SIX_SHADES, LARGEST)):
            self.assertIs(is_want(want), True, want)
        for many in MANYS:
            for word in WORDS:
                self.assertIs(is_want((word, (word,), many)), True)

    def test_no_wants(self):
        for want in (RED, MIXED, ANY, ("a", SIX_SHADES[:3], LARGEST)):
            for thing in broken_want(want):
                self.assertIs(is_want(thing), False, thing)

    def test_shades_have_to_rise(self):
        for shades in itertools.product(("a", "ab", "b"), repeat=3):
            for many in range(4):
                told = shades[:many]
                self.assertIs(is_want(("brick", told, 1)), list(told) == sorted(set(told)), told)

    def test_true_is_no_one(self):
        self.assertIs(is_want(("brick", (), 1)), True)
        self.assertIs(is_want(("brick", (), True)), False)

    def test_part_rows_are_no_wants(self):
        self.assertIs(is_want(("brick", "red", 3)), False)
        self.assertIs(is_way((("brick", "red", 3),)), False)


class Ways(unittest.TestCase):
    def test_ways(self):
        for way in ((), (RED,), (ANY, RED, MIXED), (RED, RED), (ANY,) * 6):
            self.assertIs(is_way(way), True, way)

    def test_no_ways(self):
        for way in ((), (RED,), (ANY, RED, MIXED)):
            for thing in broken_way(way):
                self.assertIs(is_way(thing), False, thing)


class Sheets(unittest.TestCase):
    def test_sheets(self):
        for sheet in ((), (((),),), BARN, PLAIN, BARN[::-1], LARGE, (((RED,), (RED,)), ((RED,), (RED,)))):
            self.assertIs(is_sheet(sheet), True, sheet)

    def test_no_sheets(self):
        for sheet in ((), (((),),), BARN, PLAIN):
            for thing in broken_sheet(sheet):
                self.assertIs(is_sheet(thing), False, thing)

    def test_levels(self):
        for level, thing in ((0, ()), (1, ((),)), (2, (((),),)), (3, ((((),),),))):
            self.assertIs(is_sheet(thing), level in (0, 2))
            self.assertIs(is_way(thing), level == 0)
        for level in range(16):
            self.assertIs(is_sheet(deep(level, RED)), level == 3, level)
            self.assertIs(is_way(deep(level, RED)), level == 1, level)
            self.assertIs(is_want(deep(level, RED)), level == 0, level)

    def test_as_large_as_any_thing(self):
        way = tuple(("brick", (), 1 + at) for at in range(1200))
        self.assertIs(is_way(way), True)
        self.assertIs(is_sheet(((way,),)), True)
        self.assertIs(is_sheet(((way + (("brick", (), 0),),),)), False)
        for look in (is_want, is_way, is_sheet):
            self.assertIs(look(deep(20, 1)), False)
            self.assertIs(look(deep(20, 1, True)), False)
            self.assertIs(look((1,) * 4999), False)
            self.assertIs(look("a" * 4000), False)

    def test_plain(self):
        for sheet in ((), (((),),), PLAIN, (((RED,),),) * 8):
            self.assertIs(is_plain(sheet), True, sheet)
        for sheet in (BARN, (((), ()),), PLAIN + BARN[:1], BARN[:1] + PLAIN, (((RED,), (RED,)),)):
            self.assertIs(is_plain(sheet), False, sheet)

    def test_nothing_handed_in_is_changed(self):
        thing = [[["brick", ["red"], 1]], (("brick", ["red", "blue"], [1]),)]
        kept = copy.deepcopy(thing)
        for look in (is_want, is_way, is_sheet):
            look(thing)
            look(((thing,),))
            self.assertEqual(thing, kept)


class Choices(unittest.TestCase):
    def test_choices(self):
        self.assertEqual(choices(()), ((),))
        self.assertEqual(choices((((),),)), ((0,),))
        self.assertEqual(choices(PLAIN), ((0, 0, 0),))
        self.assertEqual(choices(BARN), ((0, 0, 0), (0, 0, 1), (0, 0, 2), (1, 0, 0), (1, 0, 1), (1, 0, 2)))

    def test_against_the_plain_telling(self):
        self.assertEqual(len(choices(LARGE)), 64)
        for sheet in [LARGE] + [some_sheet(chance, rows=4, ways=3, wants=1) for chance in chances(50)]:
            told = choices(sheet)
            self.assertEqual(told, tuple(itertools.product(*[range(len(row)) for row in sheet])))
            self.assertEqual(list(told), sorted(set(told)))

    def test_wants_of(self):
        self.assertEqual(wants_of(BARN, (0, 0, 0)), (MIXED, ANY, ANY))
        self.assertEqual(wants_of(BARN, (1, 0, 1)), (RED, ANY, RED, ANY))
        self.assertEqual(wants_of(BARN, (1, 0, 2)), (RED, ANY, MIXED))
        self.assertEqual(wants_of((), ()), ())

    def test_wants_of_a_plain_one(self):
        for told in (wants_of(PLAIN), wants_of(PLAIN, None), wants_of(PLAIN, (0, 0, 0)),
                     wants_of(sheet=PLAIN, choice=None)):
            self.assertEqual(told, (RED, ANY, MIXED))
        self.assertEqual(wants_of(()), ())
        self.assertEqual(wants_of((((),),)), ())

    def test_wants_stay_in_their_order_and_apart(self):
        self.assertEqual(wants_of((((RED, ANY, RED),), ((ANY, MIXED),))), (RED, ANY, RED, ANY, MIXED))

    def test_wants_of_every_choice(self):
        for chance in chances(50):
            sheet = some_sheet(chance)
            for choice in choices(sheet):
                told = []
                for at, place in enumerate(choice):
                    told += list(sheet[at][place])
                self.assertEqual(wants_of(sheet, choice), tuple(told))


class Joined(unittest.TestCase):
    def test_joined(self):
        self.assertEqual(joined(BARN, PLAIN), BARN + PLAIN)
        self.assertEqual(joined(PLAIN, BARN), PLAIN + BARN)
        self.assertEqual(joined(BARN, ()), BARN)
        self.assertEqual(joined((), BARN), BARN)
        self.assertEqual(joined((), ()), ())
        self.assertEqual(joined(other=PLAIN, one=BARN), BARN + PLAIN)
        self.assertEqual(joined(LARGE, LARGE), LARGE * 2)

    def test_nothing_is_added_or_tidied(self):
        sheet = (((RED, ANY, RED),),)
        self.assertEqual(joined(sheet, sheet), sheet * 2)


class Tidy(unittest.TestCase):
    def test_tidy(self):
        self.assertEqual(tidy(()), ())
        self.assertEqual(tidy((((),),)), (((),),))
        self.assertEqual(tidy((((RED, ANY, RED), (ANY, MIXED)),)),
                         (((("brick", ("red",), 6), ANY), (MIXED, ANY)),))
        self.assertEqual(tidy(sheet=BARN), BARN)

    def test_rows_and_ways_stay_where_they_are(self):
        sheet = (((RED,), (ANY,), (RED,)), ((ANY,),), ((ANY,),))
        self.assertEqual(tidy(sheet), sheet)
        self.assertEqual(tidy(sheet[::-1]), sheet[::-1])
        self.assertEqual(tidy((((RED,),), ((RED,),))), (((RED,),), ((RED,),)))

    def test_shades_of_which_one_has_others_as_well_stay_apart(self):
        way = (("a", ("red",), 1), ("a", (), 1), ("a", ("blue", "red"), 1), ("a", ("red",), 2), ("a", ("blue",), 1),
               ("a", (), 5))
        self.assertEqual(tidy(((way,),)), (((("a", (), 6), ("a", ("blue",), 1), ("a", ("blue", "red"), 1),
                                              ("a", ("red",), 3)),),))

    def test_words_of_which_one_is_the_beginning_of_another(self):
        way = (("ab", (), 1), ("a", ("ab",), 1), ("abc", (), 1), ("a", ("a", "b"), 1), ("a", ("a",), 1))
        self.assertEqual(tidy(((way,),)), (((("a", ("a",), 1), ("a", ("a", "b"), 1), ("a", ("ab",), 1),
                                              ("ab", (), 1), ("abc", (), 1)),),))

    def test_sums_beyond_the_bounds(self):
        told = tidy(LARGE)
        self.assertEqual(told, tuple(((("form", SIX_SHADES, 6 * LARGEST),),) * len(row) for row in LARGE))

    def test_tidied_is_tidy_and_wants_as_much(self):
        for chance in chances(200):
            sheet = some_sheet(chance, wants=6)
            told = tidy(sheet)
            self.assertEqual(tidy(told), told)
            self.assertEqual([len(row) for row in told], [len(row) for row in sheet])
            for ways, news in zip(sheet, told):
                for way, new in zip(ways, news):
                    keys = [want[:2] for want in new]
                    self.assertEqual(list(new), sorted(new))
                    self.assertEqual(keys, sorted({want[:2] for want in way}))
                    for form, shades, many in new:
                        self.assertEqual(many, sum(want[2] for want in way if want[:2] == (form, shades)))


class Own(unittest.TestCase):
    """What is told is new, of just tuples, and nothing handed in is changed."""

    def test_told_is_new_and_just_tuples(self):
        for sheet in (BARN, PLAIN, made_odd(BARN), made_odd(PLAIN)):
            kept = copy.deepcopy(sheet)
            choice = (1, 0, 1) if len(sheet[0]) > 1 else (0, 0, 0)
            for ask in (lambda: joined(sheet, sheet), lambda: joined(sheet, ()), lambda: joined((), sheet),
                        lambda: tidy(sheet), lambda: wants_of(sheet, choice), lambda: choices(sheet)):
                one, other = ask(), ask()
                self.assertEqual(one, other)
                self.assertTrue(all_just_tuples(one))
                self.assertFalse(shares_a_tuple(one, sheet))
                self.assertFalse(shares_a_tuple(one, other))
            self.assertEqual(sheet, kept)


if __name__ == "__main__":
    unittest.main()
