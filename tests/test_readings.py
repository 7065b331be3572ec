"""Points 76 and 77: texts read as PART ROWS, SHEETS, PAGES and TALES."""

import itertools
import unittest

from partkits.errors import NoText, TextError
from partkits.kinds import is_part_rows
from partkits.lines import shown_page, shown_parts, shown_sheet, shown_tale
from partkits.pages import is_page, is_tale
from partkits.readings import read_page, read_parts, read_sheet, read_tale
from partkits.sheets import is_sheet
from tests.page_support import BARN, DEEDS, LOST, ROWS, pages_of
from tests.paper_support import Refusals
from tests.support import LARGEST, LONGEST_NUMBER, all_just_tuples, chances, shares_a_tuple, some_rows, some_sheet
from tests.tale_support import some_tale

TWELVE = 999999999999
SIGNS = [chr(code) for code in range(32, 127) if chr(code) != "%"]
NO_FIGURES = ("", "-1", "+1", "01", "00", "1.0", "1_0", "x", "one", "1000000000000", "9" * 13, "9" * 200, "1e3", "0x1", "-",
              "*", ".", "1/", "/1", "1,", "\n1", "1\n", "\t1")
NO_WORD_TEXTS = ("", "A", "Red", "abcdefghi", "re-d", "red1", "1", "-", "*", ".", "re|d", "r\n", "\n", "\tr", "a" * 4000)
PARTS_SPOILT = ("", "-,-", "--", "-,", ",-", ",", "brick/red/1,", ",brick/red/1", "brick/red/1,,brick/red/1", "brick/red",
                "brick", "brick/red/1/1", "/brick/red/1", "brick/red/1/", "brick//1", "/red/1", "brick/red/", "brick/red/0",
                "brick/*/1", "brick/blue+red/1", "brick/red/1;brick/red/1", "brick/red/1&brick/red/1", ".", "*",
                "brick/red:1", "brick/red/1-", "-brick/red/1", "- ,", "brick/red/1\n", "\n", "-\n")
SHEETS_SPOILT = ("", "-&-", "--", ".,.", "..", ",", ";", "&", ".;", ";.", ".&", "&.", ".&&.", ".;;.", ".,a/*/1", "a/*/1,.",
                 "a/*/1,", ",a/*/1", "a/*/1,,a/*/1", "a/*/0", "a/*", "a//1", "/*/1", "a/*/", "a/*/1/1", "a/b+/1", "a/+b/1",
                 "a/c+b/1", "a/b+b/1", "a/b++c/1", "a/+/1", "a/**/1", "a/*+b/1", "a/b+*/1", "a/-/1", "a/./1", "-;-", "-;.",
                 ".;-", "-&.", ".&-", "a/*/1;-", "a/*/1|a/*/1", "A/*/1", "a/B/1", "a/*/01", ".\n", "-\n", "\n", "a/*/1\n")


class Right(unittest.TestCase):
    def new_each_time(self, read, text):
        """What is read, of just that kind, new each time."""
        one, other = read(text), read(text)
        self.assertEqual(one, other)
        self.assertTrue(all_just_tuples(one))
        self.assertIs(type(one), tuple)
        self.assertFalse(shares_a_tuple(one, other))
        return one

    def test_parts(self):
        for text, rows in (("-", ()), ("brick/red/1", LOST), ("brick/red/3,plate/blue/12,brick/red/1", ROWS),
                           ("a/b/999999999999", (("a", "b", TWELVE),)), ("abcdefgh/zzzzzzzz/7", (("abcdefgh", "zzzzzzzz", 7),))):
            self.assertEqual(self.new_each_time(read_parts, text), rows)
            self.assertEqual(read_parts(text=text), rows)

    def test_sheets(self):
        for text, sheet in (("-", ()), (".", (((),),)), (".;.&.", (((), ()), ((),))),
                            ("brick/blue+red/4,plate/*/2;tile/*/1&wheel/*/4&.;.", BARN),
                            ("a/b/999999999999", (((("a", ("b",), TWELVE),),),)), ("a/*/1", (((("a", (), 1),),),))):
            self.assertEqual(self.new_each_time(read_sheet, text), sheet)
            self.assertEqual(read_sheet(text=text), sheet)

    def test_pages(self):
        for hour, number, deed in itertools.product((0, 7, 10, TWELVE), (0, 1, TWELVE), DEEDS):
            page = (hour, number, deed)
            self.assertEqual(self.new_each_time(read_page, shown_page(page)), page)
        self.assertEqual(read_page("3 0 lay barn 0 1 0 red 2", 5), (3, 0, ("lay", "barn", 0, 1, 0, "red", 2)))
        self.assertEqual(read_page(line=-3, text="3 0 open - -"), (3, 0, ("open", (), ())))

    def test_beyond_the_bounds(self):
        rows = tuple(("a", "b", TWELVE) for at in range(150))
        self.assertEqual(read_parts(shown_parts(rows)), rows)
        sheet = ((((("a", tuple("bcdefghijk"), 9),) * 20,) * 4),) * 5
        self.assertIs(is_sheet(sheet), True)
        self.assertEqual(read_sheet(shown_sheet(sheet)), sheet)

    def test_tales(self):
        self.assertEqual(read_tale(""), ())
        self.assertEqual(read_tale(text="1 0 open - -"), ((1, 0, ("open", (), ())),))
        for chance in chances(100):
            tale = some_tale(chance)
            self.assertEqual(self.new_each_time(read_tale, shown_tale(tale)), tale)

    def test_lines_in_any_order_and_twice(self):
        for chance in chances(60):
            tale = some_tale(chance, 12)
            lines = [shown_page(page) for page in tale]
            lines += chance.sample(lines, len(lines) // 2)
            chance.shuffle(lines)
            self.assertEqual(read_tale("\n".join(lines)), tale)

    def test_a_line_end_at_the_very_end(self):
        for chance in chances(20):
            tale = some_tale(chance, 12)
            text = shown_tale(tale)
            self.assertEqual(read_tale(text + "\n" if text else ""), tale)

    def test_long_texts(self):
        tale = tuple((hour, 0, DEEDS[3]) for hour in range(400))
        text = shown_tale(tale)
        self.assertGreater(len(text), 20000)
        self.assertEqual(read_tale(text), tale)
        self.assertEqual(read_tale(text + "\n" + text), tale)

    def test_what_is_written_is_read_as_the_same_thing(self):
        for chance in chances(300):
            rows, sheet = some_rows(chance), some_sheet(chance)
            self.assertEqual(read_parts(shown_parts(rows)), rows)
            self.assertEqual(read_sheet(shown_sheet(sheet)), sheet)


class Refused(unittest.TestCase, Refusals):
    def refused(self, line, word, read, *things):
        """That NoText(line, word) comes of it."""
        with self.assertRaises(NoText) as caught:
            read(*things)
        self.assertEqual((caught.exception.line, caught.exception.word), (line, word), things)
        self.assertIs(type(caught.exception.word), int)
        return caught.exception

    def test_parts(self):
        for text in PARTS_SPOILT:
            self.refused(0, 0, read_parts, text) if " " not in text else self.refused(0, 1, read_parts, text)
        for word in NO_WORD_TEXTS:
            self.refused(0, 0, read_parts, f"{word}/red/1")
            self.refused(0, 0, read_parts, f"brick/{word}/1,brick/red/1")
        for figures in NO_FIGURES + ("0",):
            self.refused(0, 0, read_parts, f"brick/red/{figures}")
            self.refused(0, 0, read_parts, f"brick/red/1,brick/red/{figures}")

    def test_sheets(self):
        for text in SHEETS_SPOILT:
            self.refused(0, 0, read_sheet, text)
        for word in NO_WORD_TEXTS:
            self.refused(0, 0, read_sheet, f"{word}/red/1")
            if word not in ("*",):
                self.refused(0, 0, read_sheet, f"brick/{word}/1;.")
            self.refused(0, 0, read_sheet, f"brick/a+{word}/1")
        for figures in NO_FIGURES + ("0",):
            self.refused(0, 0, read_sheet, f"brick/red/{figures}")
            self.refused(0, 0, read_sheet, f".&brick/*/{figures};.")

    def test_too_many_words(self):
        for read, text in ((read_parts, "-"), (read_parts, "brick/red/1"), (read_sheet, "-"), (read_sheet, "a/*/1;.")):
            for more in (" ", " -", "  ", " x y", f" {text}", " \n"):
                self.refused(0, 1, read, text + more)
            for ahead in (" ", "  ", "x ", "X ", "1 "):
                self.refused(0, 0, read, ahead + text)
            self.refused(0, 0, read, "")
            self.refused(0, 0, read, " ")

    def test_each_word_of_a_page_that_can_not_stand(self):
        """Of each DEED, each word spoilt: its number, whatever stands behind it."""
        for page in pages_of(*DEEDS):
            words = shown_page(page).split(" ")
            for at, word in enumerate(words):
                for wrong in ("", "A", "?", "|", "-1", "a/b", "=", word + "\n", word + "|", "9" * 13, "a/b/0", "a//1"):
                    spoilt = words[:at] + [wrong] + words[at + 1:]
                    self.refused(0, at, read_page, " ".join(spoilt))
                    self.refused(7, at, read_page, " ".join(spoilt), 7)
                    self.refused(0, at, read_page, " ".join(spoilt + ["x"]))
                    self.refused(0, at, read_page, " ".join(spoilt[:at + 1]))
                    self.refused(0, at, read_page, " ".join(spoilt[:at + 1] + ["?"] * 3))

    def test_numbers(self):
        for at, word in itertools.product((0, 1, 4, 5, 6, 8), ("lay", "off")):
            words = f"3 0 {word} barn 0 1 0 red 2".split(" ")
            for figures in NO_FIGURES + (("0",) if at == 8 else ()):
                self.refused(0, at, read_page, " ".join(words[:at] + [figures] + words[at + 1:]))
            for figures in ("7", "10", "999999999999", "100000000000"):
                self.assertIs(is_page(read_page(" ".join(words[:at] + [figures] + words[at + 1:]))), True)

    def test_words_of_eight_letters_and_of_nine(self):
        for text, at in (("3 0 apart {} -", 3), ("3 0 begin {} .", 3), ("3 0 lay {} 0 0 0 red 1", 3),
                         ("3 0 off barn 0 0 0 {} 1", 7), ("3 0 lend {} -", 3), ("3 0 bring ann brick/{}/1", 4),
                         ("3 0 open {}/red/1 -", 3), ("3 0 open - brick/{}/1", 4), ("3 0 begin barn brick/a+{}/1", 4)):
            self.assertEqual(shown_page(read_page(text.format("abcdefgh"))), text.format("abcdefgh"))
            self.refused(0, at, read_page, text.format("abcdefghi"))

    def test_words_that_lack(self):
        for page in pages_of(*DEEDS):
            words = shown_page(page).split(" ")
            for size in range(1, len(words)):
                self.refused(0, size, read_page, " ".join(words[:size]))
                self.refused(-2, size, read_page, " ".join(words[:size]), -2)
        self.refused(0, 0, read_page, "")

    def test_words_too_many(self):
        for page in pages_of(*DEEDS):
            text = shown_page(page)
            size = len(text.split(" "))
            for more in (" ", "  ", " -", " 1", f" {text}", " | 1 0 open - -"):
                self.refused(0, size, read_page, text + more)

    def test_blanks(self):
        self.refused(0, 0, read_page, " 3 0 open - -")
        self.refused(0, 1, read_page, "3  0 open - -")
        self.refused(0, 2, read_page, "3 0  open - -")
        self.refused(0, 3, read_page, "3 0 open  - -")
        self.refused(0, 5, read_page, "3 0 open - - ")
        self.refused(0, 0, read_page, " ")
        self.refused(0, 0, read_page, "    ")

    def test_the_word_of_one_deed_with_the_words_of_another(self):
        self.refused(0, 3, read_page, "3 0 open barn -")
        self.refused(0, 4, read_page, "3 0 lay barn -")
        self.refused(0, 4, read_page, "3 0 begin barn 0 1 0 red 2")
        self.refused(0, 4, read_page, "3 0 lend ann a/*/1")
        self.refused(0, 4, read_page, "3 0 lend ann .")
        self.refused(0, 5, read_page, "3 0 lend ann - -")
        self.refused(0, 2, read_page, "3 0 tell barn -")
        self.refused(0, 2, read_page, "3 0 Open - -")
        self.refused(0, 2, read_page, "3 0 0 open - -")

    def test_the_line_as_handed_in(self):
        for line in (0, 1, -1, LARGEST, LONGEST_NUMBER, -LONGEST_NUMBER):
            self.refused(line, 0, read_page, "x", line)
            self.assertIs(self.refused(line, 3, read_page, "1 0 open", line).line, line)
        with self.assertRaises(NoText) as caught:
            read_page(line=5, text="1 0")
        self.assertEqual((caught.exception.line, caught.exception.word), (5, 2))

    def test_tales(self):
        page = "3 0 lay barn 0 1 0 red 2"
        for text, line, word in (("\n", 0, 0), ("\n\n", 0, 0), (page + "\n\n", 1, 0), ("\n" + page, 0, 0),
                                 (page + "\n\n" + page, 1, 0), ("x", 0, 0), (page + "\nx", 1, 0), (page + "\n3", 1, 1),
                                 (page + "\n" + page + "\n3 0 lay", 2, 3), (page + " \n" + page, 0, 9),
                                 (page + "\n " + page, 1, 0), ("3 0 open -\n" + page + "\nx", 0, 4),
                                 (page + "\n" + page + " x\nx\n", 1, 9), (" ", 0, 0), ("\n ", 0, 0), (page + "\n ", 1, 0)):
            self.refused(line, word, read_tale, text)

    def test_the_first_line_that_writes_no_page(self):
        for chance in chances(60):
            tale = some_tale(chance, 10) + pages_of(DEEDS[2])
            lines = [shown_page(page) for page in tale]
            wrong = sorted(chance.sample(range(len(lines)), chance.randint(1, len(lines))))
            for at in wrong:
                lines[at] = lines[at].replace(" ", "  ", 1)
            self.refused(wrong[0], 1, read_tale, "\n".join(lines))

    def test_spoilt_by_a_sign_at_any_place(self):
        """With each sign in each place: what is still read is of its kind and is written as it was read."""
        texts = ((read_parts, "ab/c/12,d/e/3", is_part_rows, shown_parts), (read_sheet, "a/b+c/12;.&d/*/3", is_sheet, shown_sheet),
                 (read_page, "10 2 lay ab 0 1 20 c 3", is_page, shown_page), (read_tale, "1 0 open - -\n2 0 apart a -", is_tale,
                                                                            shown_tale))
        for read, text, look, shown in texts:
            spoilt = [text[:at] + sign + text[at + cut:] for at in range(len(text) + 1) for sign in SIGNS + ["", "\n"]
                      for cut in (0, 1)]
            seen = set()
            for own in spoilt:
                try:
                    told = read(own)
                except NoText as refusal:
                    seen.add(False)
                    self.assertTrue(0 <= refusal.word <= len(own.split(" ")))
                    continue
                seen.add(True)
                self.assertIs(look(told), True)
                if read is read_tale:
                    lines = own[:-1] if own.endswith("\n") else own
                    self.assertEqual(sorted(shown(told).split("\n")), sorted(set(lines.split("\n"))))
                else:
                    self.assertEqual(shown(told), own)
            self.assertEqual(seen, {True, False})

    def test_taken_by_its_families_alone(self):
        for read in (read_parts, read_sheet, read_page, read_tale):
            self.assert_families(NoText, lambda: read("X"), family=TextError)
            self.assert_families(NoText, lambda: read("- 3"), family=TextError)


if __name__ == "__main__":
    unittest.main()
