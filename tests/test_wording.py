"""Points 19 and 20, its last sentence: HEAPS and SHEETS with FORMS and SHADES called otherwise."""

import copy
import itertools
import unittest

from partkits.heaps import Heap
from partkits.sheets import is_sheet
from partkits.wording import renamed, sheet_renamed
from tests.support import (LARGEST, all_just_tuples, builds, chances, counted, made_odd, shares_a_tuple, some_rows,
                           some_sheet)

ROWS = (("brick", "blue", 5), ("brick", "red", 3), ("plate", "blue", 12), ("tile", "green", 1))
HEAP = Heap(ROWS)
SHEET = (((("brick", ("blue", "red"), 4), ("plate", (), 1)), (("tile", ("green",), 2),)), ((),),
         ((("brick", ("red",), 1), ("brick", ("red",), 1)),))
EXCHANGED = (("brick", "plate"), ("plate", "brick"))
FORMS = ("a", "ab", "b")
SHADES = ("blue", "re", "red")


def plain_renamed(heap, forms, shades):
    """The PART ROWS of the HEAP called otherwise, told in another way than the program does."""
    told = [(dict(forms or ()).get(f, f), dict(shades or ()).get(s, s), many) for f, s, many in heap.rows()]
    return tuple((f, s, many) for (f, s), many in sorted(counted(told).items()))


def some_pairs(chance, words, newer):
    """PAIRS of some of the WORDS, perhaps to one another, perhaps two to one."""
    elder = sorted(chance.sample(words, chance.randint(0, len(words))))
    return tuple((word, chance.choice(newer)) for word in elder)


class Heaps(unittest.TestCase):
    def test_renamed(self):
        told = renamed(HEAP, (("brick", "stone"),), (("blue", "navy"), ("red", "wine")))
        self.assertEqual(told.rows(), (("plate", "navy", 12), ("stone", "navy", 5), ("stone", "wine", 3),
                                       ("tile", "green", 1)))
        self.assertIsInstance(told, Heap)

    def test_forms_alone_and_shades_alone(self):
        self.assertEqual(renamed(HEAP, forms=(("tile", "brick"),)),
                         Heap(ROWS[:3] + (("brick", "green", 1),)))
        self.assertEqual(renamed(HEAP, shades=(("blue", "navy"),)),
                         Heap((("brick", "navy", 5), ROWS[1], ("plate", "navy", 12), ROWS[3])))
        self.assertEqual(renamed(HEAP, None, (("green", "lime"),)), Heap(ROWS[:3] + (("tile", "lime", 1),)))

    def test_all_at_once(self):
        self.assertEqual(renamed(HEAP, EXCHANGED), Heap((("plate", "blue", 5), ("plate", "red", 3),
                                                         ("brick", "blue", 12), ROWS[3])))
        self.assertEqual(renamed(HEAP, None, (("blue", "red"), ("red", "blue"))),
                         Heap((("brick", "red", 5), ("brick", "blue", 3), ("plate", "red", 12), ROWS[3])))
        around = (("blue", "green"), ("green", "red"), ("red", "blue"))
        self.assertEqual(renamed(HEAP, (), around), Heap((("brick", "green", 5), ("brick", "blue", 3),
                                                          ("plate", "green", 12), ("tile", "red", 1))))

    def test_a_form_and_a_shade_of_one_word_are_two(self):
        heap = Heap((("red", "blue", 1), ("blue", "red", 2)))
        self.assertEqual(renamed(heap, (("red", "wine"),)).rows(), (("blue", "red", 2), ("wine", "blue", 1)))
        self.assertEqual(renamed(heap, None, (("red", "wine"),)).rows(), (("blue", "wine", 2), ("red", "blue", 1)))

    def test_what_comes_to_be_one_part_is_added(self):
        self.assertEqual(renamed(HEAP, None, (("blue", "red"),)).rows(),
                         (("brick", "red", 8), ("plate", "red", 12), ("tile", "green", 1)))
        self.assertEqual(renamed(HEAP, (("brick", "x"), ("plate", "x"), ("tile", "x")),
                                 (("blue", "y"), ("green", "y"), ("red", "y"))).rows(), (("x", "y", 21),))
        full = Heap((("a", "b", LARGEST), ("a", "c", LARGEST)))
        self.assertEqual(renamed(full, None, (("c", "b"),)).rows(), (("a", "b", 2 * LARGEST),))

    def test_pairs_that_rename_nothing(self):
        for told in (renamed(HEAP), renamed(HEAP, None), renamed(HEAP, None, None), renamed(HEAP, ()),
                     renamed(HEAP, (), ()), renamed(HEAP, forms=(), shades=None), renamed(heap=HEAP),
                     renamed(HEAP, (("wheel", "x"),), (("black", "y"),)), renamed(HEAP, (("bric", "x"),)),
                     renamed(HEAP, (("brick", "brick"),), (("red", "red"),)), renamed(HEAP, (("red", "x"),)),
                     renamed(HEAP, None, (("brick", "x"),))):
            self.assertEqual(told, HEAP)
            self.assertEqual(told.rows(), ROWS)

    def test_a_heap_of_none(self):
        self.assertEqual(renamed(Heap(), (("brick", "x"),), (("red", "y"),)), Heap())

    def test_forty_parts(self):
        rows = tuple(("f" + a, "s" + b, LARGEST) for a in "abcde" for b in "stuvwxyz")
        pairs = tuple(("s" + b, "n" + b) for b in "stuvwxyz")
        self.assertEqual(renamed(Heap(rows), None, pairs).rows(), tuple((f, "n" + s[1], many) for f, s, many in rows))

    def test_against_the_plain_telling(self):
        for chance in chances(300):
            heap = Heap(some_rows(chance))
            forms = some_pairs(chance, FORMS, FORMS + ("c",))
            shades = some_pairs(chance, SHADES, SHADES + ("x",))
            self.assertEqual(renamed(heap, forms, shades).rows(), plain_renamed(heap, forms, shades))
            self.assertEqual(renamed(heap, forms).rows(), plain_renamed(heap, forms, None))
            self.assertEqual(renamed(heap, shades=shades).rows(), plain_renamed(heap, None, shades))


class Sheets(unittest.TestCase):
    def test_renamed(self):
        told = sheet_renamed(SHEET, (("brick", "stone"),), (("green", "lime"), ("red", "wine")))
        self.assertEqual(told, (((("stone", ("blue", "wine"), 4), ("plate", (), 1)), (("tile", ("lime",), 2),)), ((),),
                                ((("stone", ("wine",), 1), ("stone", ("wine",), 1)),)))

    def test_shades_rise_again_and_each_is_there_once(self):
        sheet = (((("a", ("b", "c", "d"), 4),),),)
        for pairs, shades in (((("b", "x"),), ("c", "d", "x")), ((("d", "a"),), ("a", "b", "c")),
                              ((("b", "d"), ("d", "b")), ("b", "c", "d")), ((("b", "c"),), ("c", "d")),
                              ((("b", "x"), ("c", "x"), ("d", "x")), ("x",)), ((("b", "d"), ("c", "b")), ("b", "d"))):
            self.assertEqual(sheet_renamed(sheet, None, pairs), (((("a", shades, 4),),),), pairs)

    def test_wants_that_come_to_be_alike_stay_apart_and_in_order(self):
        sheet = (((("b", ("r",), 2), ("a", (), 1), ("b", ("s",), 3)),), (((), (("a", (), 1),))))
        self.assertEqual(sheet_renamed(sheet, (("a", "b"),), (("s", "r"),)),
                         (((("b", ("r",), 2), ("b", (), 1), ("b", ("r",), 3)),), (((), (("b", (), 1),)))))

    def test_all_at_once(self):
        told = sheet_renamed(SHEET, EXCHANGED, (("blue", "red"), ("red", "blue")))
        self.assertEqual(told, (((("plate", ("blue", "red"), 4), ("brick", (), 1)), (("tile", ("green",), 2),)), ((),),
                                ((("plate", ("blue",), 1), ("plate", ("blue",), 1)),)))

    def test_pairs_that_rename_nothing(self):
        for told in (sheet_renamed(SHEET), sheet_renamed(SHEET, None, None), sheet_renamed(SHEET, (), ()),
                     sheet_renamed(sheet=SHEET, forms=None, shades=()), sheet_renamed(SHEET, (("blue", "x"),)),
                     sheet_renamed(SHEET, shades=(("tile", "x"),)), sheet_renamed(SHEET, (("tile", "tile"),))):
            self.assertEqual(told, SHEET)
        for sheet in ((), (((),),)):
            self.assertEqual(sheet_renamed(sheet, (("a", "b"),), (("c", "d"),)), sheet)

    def test_any_stays_any(self):
        self.assertEqual(sheet_renamed((((("a", (), 1),),),), None, (("red", "blue"),)), (((("a", (), 1),),),))

    def test_against_the_plain_telling(self):
        for chance in chances(200):
            sheet = some_sheet(chance)
            forms = some_pairs(chance, FORMS, FORMS + ("c",))
            shades = some_pairs(chance, SHADES, SHADES + ("x",))
            told = sheet_renamed(sheet, forms, shades)
            plain = tuple(tuple(tuple(
                (dict(forms).get(f, f), tuple(sorted({dict(shades).get(s, s) for s in own})), many)
                for f, own, many in way) for way in row) for row in sheet)
            self.assertEqual(told, plain)
            self.assertIs(is_sheet(told), True)


class ThereAndBack(unittest.TestCase):
    def test_heaps_and_sheets_are_as_they_were(self):
        newer_forms = (("a", "na"), ("ab", "c"), ("b", "zz"))
        newer_shades = (("blue", "x"), ("re", "aa"), ("red", "m"))
        for forms, shades in itertools.product((None, (), newer_forms[:2], newer_forms), (None, newer_shades)):
            back = [tuple(sorted((newer, elder) for elder, newer in pairs or ())) for pairs in (forms, shades)]
            for chance in chances(50):
                heap, sheet = Heap(some_rows(chance)), some_sheet(chance)
                self.assertEqual(renamed(renamed(heap, forms, shades), *back), heap)
                self.assertEqual(sheet_renamed(sheet_renamed(sheet, forms, shades), *back), sheet)

    def test_called_otherwise_they_are_built_alike(self):
        for chance in chances(100):
            heap, sheet = Heap(some_rows(chance)), some_sheet(chance)
            pairs = ((("a", "ab"), ("ab", "a")), (("blue", "red"), ("re", "blue"), ("red", "re")))
            self.assertIs(builds(renamed(heap, *pairs), sheet_renamed(sheet, *pairs)), builds(heap, sheet))


class Own(unittest.TestCase):
    def test_told_is_new_and_just_tuples(self):
        for sheet in (SHEET, made_odd(SHEET)):
            kept = copy.deepcopy(sheet)
            for pairs in ((), (None, None), ((), ()), (EXCHANGED, (("red", "x"),))):
                one, other = sheet_renamed(sheet, *pairs), sheet_renamed(sheet, *pairs)
                self.assertTrue(all_just_tuples(one))
                self.assertFalse(shares_a_tuple(one, sheet))
                self.assertFalse(shares_a_tuple(one, other))
            self.assertEqual(sheet, kept)

    def test_nothing_handed_in_is_changed(self):
        heap = Heap(ROWS)
        told = renamed(heap, EXCHANGED, (("red", "blue"),))
        self.assertEqual(heap.rows(), ROWS)
        self.assertIsNot(renamed(heap), heap)
        self.assertNotEqual(told, heap)
        self.assertFalse(shares_a_tuple(renamed(heap).rows(), heap.rows()))


if __name__ == "__main__":
    unittest.main()
