"""Point 75: PART ROWS, SHEETS, PAGES and TALES as texts."""

import copy
import itertools
import unittest

from partkits.lines import shown_page, shown_parts, shown_sheet, shown_tale
from tests.page_support import BARN, DEEDS, LOST, ROWS
from tests.support import LARGEST, LONGEST_NUMBER, chances, made_odd, some_rows, some_sheet
from tests.tale_support import some_tale

TWELVE = 999999999999


class Parts(unittest.TestCase):
    def test_each(self):
        for rows, told in (((), "-"), (LOST, "brick/red/1"), (ROWS, "brick/red/3,plate/blue/12,brick/red/1"),
                           ((("a", "b", TWELVE),), "a/b/999999999999"),
                           ((("abcdefgh", "zzzzzzzz", 10),), "abcdefgh/zzzzzzzz/10"),
                           ((("a", "b", LONGEST_NUMBER),), "a/b/" + "9" * 200)):
            self.assertEqual(shown_parts(rows), told)
            self.assertEqual(shown_parts(rows=made_odd(rows)), told)
            self.assertIs(type(shown_parts(rows)), str)

    def test_as_they_stand(self):
        for turned in itertools.permutations(ROWS):
            self.assertEqual(shown_parts(turned), ",".join("/".join(map(str, row)) for row in turned))


class Sheets(unittest.TestCase):
    def test_each(self):
        for sheet, told in (((), "-"), ((((),),), "."), ((((), ()), ((),)), ".;.&."),
                            ((((("brick", ("blue", "red"), 4), ("plate", (), 2)), (("tile", (), 1),)),
                              ((("wheel", (), 4),),)), "brick/blue+red/4,plate/*/2;tile/*/1&wheel/*/4"),
                            (BARN, "brick/blue+red/4,plate/*/2;tile/*/1&wheel/*/4&.;."),
                            (BARN[::-1], ".;.&wheel/*/4&brick/blue+red/4,plate/*/2;tile/*/1"),
                            ((((("a", ("b",), TWELVE),),),), "a/b/999999999999"),
                            ((((("a", ("b", "c", "d", "e", "f", "g"), 1),), ()),), "a/b+c+d+e+f+g/1;.")):
            self.assertEqual(shown_sheet(sheet), told)
            self.assertEqual(shown_sheet(sheet=made_odd(sheet)), told)
            self.assertIs(type(shown_sheet(sheet)), str)


class Pages(unittest.TestCase):
    def test_each_deed(self):
        for deed, told in zip(DEEDS, (
                "open brick/red/3,plate/blue/12,brick/red/1 brick/red/1", "open brick/red/3,plate/blue/12,brick/red/1 -",
                "open - -", "begin barn brick/blue+red/4,plate/*/2;tile/*/1&wheel/*/4&.;.", "begin cart -",
                "lay barn 0 1 0 red 2", "off barn 0 1 0 red 1", "apart barn brick/red/1", "apart barn -",
                "lend ann brick/red/3,plate/blue/12,brick/red/1", "lend ann -", "bring ann brick/red/1", "bring bob -")):
            for hour, number in ((0, 0), (3, 0), (10, 200), (TWELVE, LARGEST)):
                self.assertEqual(shown_page((hour, number, deed)), f"{hour} {number} {told}")
                self.assertEqual(shown_page(page=made_odd((hour, number, deed))), f"{hour} {number} {told}")
        self.assertEqual(shown_page((3, 0, ("lay", "barn", 0, 1, 0, "red", 2))), "3 0 lay barn 0 1 0 red 2")

    def test_large_places(self):
        deed = ("off", "x", TWELVE, 10, LARGEST, "y", TWELVE)
        self.assertEqual(shown_page((0, 0, deed)), "0 0 off x 999999999999 10 1000000000 y 999999999999")


class Tales(unittest.TestCase):
    def test_each(self):
        page, other = (3, 0, DEEDS[5]), (4, 1, DEEDS[2])
        for tale, told in (((), ""), ((page,), "3 0 lay barn 0 1 0 red 2"),
                           ((page, other), "3 0 lay barn 0 1 0 red 2\n4 1 open - -")):
            self.assertEqual(shown_tale(tale), told)
            self.assertEqual(shown_tale(tale=made_odd(tale)), told)
            self.assertIs(type(shown_tale(tale)), str)

    def test_a_line_for_each_page(self):
        for chance in chances(60):
            tale = some_tale(chance)
            self.assertEqual(shown_tale(tale), "\n".join(shown_page(page) for page in tale))

    def test_unlike_things_are_written_unlike(self):
        sheets, rows, tales = {}, {}, {}
        for chance in chances(400):
            sheet, some, tale = some_sheet(chance, wants=2), some_rows(chance, 2, 2), some_tale(chance, 4)
            self.assertEqual(sheets.setdefault(shown_sheet(sheet), sheet), sheet)
            self.assertEqual(rows.setdefault(shown_parts(some), some), some)
            self.assertEqual(tales.setdefault(shown_tale(tale), tale), tale)

    def test_nothing_is_changed(self):
        for chance in chances(20):
            tale = some_tale(chance)
            kept = copy.deepcopy(tale)
            self.assertEqual(shown_tale(tale), shown_tale(tale))
            self.assertEqual(tale, kept)


if __name__ == "__main__":
    unittest.main()
