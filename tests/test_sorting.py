"""Points 17 and 18: PART ROWS and NAMED SHEETS sorted."""

import functools
import itertools
import unittest

from partkits.sheets import choices, wants_of
from partkits.sorting import sorted_parts, sorted_sheets
from tests.support import LARGEST, all_just_tuples, chances, made_odd, shares_a_tuple, some_rows, some_sheet

ROWS = (("b", "red", 2), ("a", "red", 2), ("a", "blue", 10), ("b", "blue", 2), ("a", "red", 1), ("a", "red", 2))
PARTS_BY = {
    "form": (("a", "blue", 10), ("a", "red", 1), ("a", "red", 2), ("a", "red", 2), ("b", "blue", 2), ("b", "red", 2)),
    "shade": (("a", "blue", 10), ("b", "blue", 2), ("a", "red", 1), ("a", "red", 2), ("a", "red", 2), ("b", "red", 2)),
    "many": (("a", "red", 1), ("a", "red", 2), ("a", "red", 2), ("b", "blue", 2), ("b", "red", 2), ("a", "blue", 10)),
}
PLACES = {"form": (0, 1, 2), "shade": (1, 0, 2), "many": (2, 0, 1)}


def want(many):
    return ("brick", ("red",), many)


# name: rows, wants in all ways, fewest parts of a choice
SIZES = {"barn": (1, 3, 9), "car": (2, 2, 9), "bar": (1, 1, 30), "ship": (0, 0, 0), "hut": (3, 3, 0), "a": (1, 3, 1)}
SHEETS = {
    "barn": (((want(4), want(5)), (want(10),)),),
    "car": (((want(2),),), ((want(7),),)),
    "bar": (((want(30),),),),
    "ship": (),
    "hut": (((), (want(5),)), ((want(6),), ()), ((want(1),), ())),
    "a": (((want(1),), (want(2),), (want(3),)),),
}
NAMED = tuple(SHEETS.items())
NAMES_BY = {
    "name": ("a", "bar", "barn", "car", "hut", "ship"),
    "rows": ("ship", "a", "bar", "barn", "car", "hut"),
    "wants": ("ship", "bar", "car", "a", "barn", "hut"),
    "parts": ("hut", "ship", "a", "barn", "car", "bar"),
}
TURNED_BY = {
    "name": ("ship", "hut", "car", "barn", "bar", "a"),
    "rows": ("hut", "car", "a", "bar", "barn", "ship"),
    "wants": ("a", "barn", "hut", "car", "bar", "ship"),
    "parts": ("bar", "barn", "car", "a", "hut", "ship"),
}


def plain_size(sheet, by):
    """The size of a SHEET, each CHOICE tried."""
    if by == "parts":
        return min(sum(many for form, shades, many in wants_of(sheet, choice)) for choice in choices(sheet))
    return len(sheet) if by == "rows" else sum(len(way) for row in sheet for way in row)


def plain_order(by, turned):
    """How two pairs stand to one another."""
    def compared(one, other):
        if by != "name":
            mine, theirs = plain_size(one[1], by), plain_size(other[1], by)
            if mine != theirs:
                return -1 if (mine < theirs) != turned else 1
            return -1 if one[0] < other[0] else 1
        return -1 if (one[0] < other[0]) != turned else 1
    return functools.cmp_to_key(compared)


class Parts(unittest.TestCase):
    def test_each_order_turned_and_not(self):
        for rows in (ROWS, ROWS[::-1], tuple(sorted(ROWS))):
            for by, told in PARTS_BY.items():
                self.assertEqual(sorted_parts(rows, by), told, by)
                self.assertEqual(sorted_parts(rows, by, False), told, by)
                self.assertEqual(sorted_parts(rows, by, True), told[::-1], by)

    def test_left_out_and_by_name(self):
        self.assertEqual(sorted_parts(ROWS), PARTS_BY["form"])
        self.assertEqual(sorted_parts(ROWS, turned=True), PARTS_BY["form"][::-1])
        self.assertEqual(sorted_parts(turned=True, by="many", rows=ROWS), PARTS_BY["many"][::-1])

    def test_none_and_one(self):
        for by in PARTS_BY:
            for turned in (False, True):
                self.assertEqual(sorted_parts((), by, turned), ())
                self.assertEqual(sorted_parts(ROWS[:1], by, turned), ROWS[:1])

    def test_alike_ones_stay(self):
        rows = (("a", "red", 1),) * 3 + (("a", "red", 2),) * 2
        for by in PARTS_BY:
            self.assertEqual(sorted_parts(rows[::-1], by), rows)
            self.assertEqual(sorted_parts(rows, by, True), rows[::-1])

    def test_words_of_which_one_is_the_beginning_of_another(self):
        rows = (("ab", "a", 1), ("a", "ab", 1), ("abc", "a", 1), ("a", "a", 1))
        self.assertEqual(sorted_parts(rows), (("a", "a", 1), ("a", "ab", 1), ("ab", "a", 1), ("abc", "a", 1)))
        self.assertEqual(sorted_parts(rows, "shade"), (("a", "a", 1), ("ab", "a", 1), ("abc", "a", 1), ("a", "ab", 1)))

    def test_manys_are_numbers(self):
        rows = (("a", "red", LARGEST), ("a", "red", 9), ("a", "red", 10), ("b", "red", LARGEST - 1))
        self.assertEqual([row[2] for row in sorted_parts(rows, "many")], [9, 10, LARGEST - 1, LARGEST])
        self.assertEqual([row[2] for row in sorted_parts(rows)], [9, 10, LARGEST, LARGEST - 1])

    def test_against_the_plain_telling(self):
        for chance in chances(100):
            rows = some_rows(chance, most=12, many=4)
            for by, places in PLACES.items():
                for turned in (False, True):
                    plain = sorted(rows, key=lambda row: [row[at] for at in places], reverse=turned)
                    self.assertEqual(sorted_parts(rows, by, turned), tuple(plain))

    def test_told_is_new_and_just_tuples(self):
        for rows in (ROWS, made_odd(ROWS)):
            for by in PARTS_BY:
                for turned in (False, True):
                    one, other = sorted_parts(rows, by, turned), sorted_parts(rows, by, turned)
                    self.assertTrue(all_just_tuples(one))
                    self.assertFalse(shares_a_tuple(one, rows))
                    self.assertFalse(shares_a_tuple(one, other))
            self.assertEqual(rows, ROWS)


class NamedSheets(unittest.TestCase):
    def names(self, *asked, **more):
        told = sorted_sheets(*asked, **more)
        for name, sheet in told:
            self.assertEqual(sheet, SHEETS[name])
        return tuple(name for name, sheet in told)

    def test_the_sheets_are_as_large_as_said(self):
        for name, sizes in SIZES.items():
            self.assertEqual(tuple(plain_size(SHEETS[name], by) for by in ("rows", "wants", "parts")), sizes, name)

    def test_each_order_turned_and_not(self):
        for named in itertools.permutations(NAMED):
            for by in NAMES_BY:
                self.assertEqual(self.names(named, by), NAMES_BY[by], by)
                self.assertEqual(self.names(named, by, True), TURNED_BY[by], by)

    def test_left_out_and_by_name(self):
        self.assertEqual(self.names(NAMED), NAMES_BY["name"])
        self.assertEqual(self.names(NAMED, turned=True), TURNED_BY["name"])
        self.assertEqual(self.names(NAMED, "rows", False), NAMES_BY["rows"])
        self.assertEqual(self.names(turned=True, by="parts", named=NAMED), TURNED_BY["parts"])

    def test_none_and_one(self):
        for by in NAMES_BY:
            for turned in (False, True):
                self.assertEqual(sorted_sheets((), by, turned), ())
                self.assertEqual(sorted_sheets(NAMED[:1], by, turned), NAMED[:1])

    def test_alike_ones_by_their_names_whether_turned_or_not(self):
        names = ("z", "ab", "b", "abc", "a", "ba", "abcdefgh")
        named = tuple((name, SHEETS["barn"]) for name in names)
        for by in ("rows", "wants", "parts"):
            for turned in (False, True):
                told = tuple(name for name, sheet in sorted_sheets(named, by, turned))
                self.assertEqual(told, ("a", "ab", "abc", "abcdefgh", "b", "ba", "z"))

    def test_wants_in_all_ways_not_those_of_a_choice(self):
        named = (("one", (((want(1), want(1)), (want(1), want(1))),)), ("two", (((want(1),) * 3,),)))
        self.assertEqual([name for name, sheet in sorted_sheets(named, "wants")], ["two", "one"])

    def test_parts_beyond_the_bounds(self):
        named = (("one", (((want(LARGEST),) * 6,),) * 8), ("two", (((want(LARGEST),) * 5 + (want(LARGEST - 1),),),) * 8))
        self.assertEqual([name for name, sheet in sorted_sheets(named, "parts")], ["two", "one"])
        self.assertEqual([name for name, sheet in sorted_sheets(named, "parts", True)], ["one", "two"])

    def test_against_the_plain_telling(self):
        for chance in chances(100):
            names = chance.sample(("a", "ab", "b", "ba", "c", "abc"), chance.randint(0, 6))
            named = tuple((name, some_sheet(chance)) for name in names)
            for by in NAMES_BY:
                for turned in (False, True):
                    self.assertEqual(sorted_sheets(named, by, turned),
                                     tuple(sorted(named, key=plain_order(by, turned))), (by, turned))

    def test_told_is_new_and_just_tuples(self):
        for named in (NAMED, made_odd(NAMED)):
            for by in NAMES_BY:
                for turned in (False, True):
                    one, other = sorted_sheets(named, by, turned), sorted_sheets(named, by, turned)
                    self.assertTrue(all_just_tuples(one))
                    self.assertFalse(shares_a_tuple(one, named))
                    self.assertFalse(shares_a_tuple(one, other))
            self.assertEqual(named, NAMED)


if __name__ == "__main__":
    unittest.main()
