"""Points 2, 3, 6 and 10: NUMBERS, WORDS, PART ROWS, looked for in any thing."""

import copy
import unittest

from partkits.kinds import is_number, is_part_rows, is_word
from tests.support import (LARGEST, LONGEST_NUMBER, MANYS, NO_NUMBERS, NO_WORDS, NUMBERS, WORDS, broken_part_rows,
                           deep, plain_number, plain_word)

ROWS = (("brick", "red", 3), ("a", "abcdefgh", LARGEST), ("brick", "red", 3), ("abcdefgh", "z", 1))


class Numbers(unittest.TestCase):
    def test_numbers(self):
        for thing in NUMBERS:
            self.assertIs(is_number(thing), True, thing)

    def test_no_numbers(self):
        for thing in NO_NUMBERS + (deep(20, 1), deep(20, 1, True)):
            self.assertIs(is_number(thing), False, thing)

    def test_truths_are_no_numbers(self):
        self.assertIs(is_number(True), False)
        self.assertIs(is_number(False), False)


class Words(unittest.TestCase):
    def test_words(self):
        for thing in WORDS:
            self.assertIs(is_word(thing), True, thing)

    def test_each_letter(self):
        for code in range(256):
            thing = chr(code)
            self.assertIs(is_word(thing), thing in "abcdefghijklmnopqrstuvwxyz", thing)
            self.assertIs(is_word("red" + thing), thing in "abcdefghijklmnopqrstuvwxyz", thing)

    def test_length(self):
        for many in range(20):
            self.assertIs(is_word("q" * many), 1 <= many <= 8, many)

    def test_no_words(self):
        for thing in NO_WORDS:
            self.assertIs(is_word(thing), False, thing)

    def test_wrong_sign_at_each_place(self):
        for many in range(1, 9):
            for at in range(many):
                for sign in "A1 -\n":
                    self.assertIs(is_word("q" * at + sign + "q" * (many - at - 1)), False)


class PartRows(unittest.TestCase):
    def test_part_rows(self):
        for thing in ((), ROWS, ROWS[:1], ROWS[::-1], tuple(sorted(ROWS)), ROWS * 2):
            self.assertIs(is_part_rows(thing), True, thing)

    def test_words_and_manys_of_each_size(self):
        for many in MANYS:
            for word in WORDS:
                self.assertIs(is_part_rows(((word, "red", many), ("red", word, many))), True)

    def test_as_large_as_any_thing(self):
        rows = tuple(("brick", "red", 1 + at) for at in range(1249))
        self.assertIs(is_part_rows(rows), True)
        self.assertIs(is_part_rows(rows[:-1] + (("brick", "red", True),)), False)
        self.assertIs(is_part_rows((1,) * 4999), False)
        self.assertIs(is_part_rows(deep(20, 1)), False)
        self.assertIs(is_part_rows(deep(19, ())), False)

    def test_no_part_rows(self):
        for rows in ((), ROWS, ROWS[:1]):
            for thing in broken_part_rows(rows):
                self.assertIs(is_part_rows(thing), False, thing)

    def test_true_is_no_one(self):
        self.assertIs(is_part_rows((("brick", "red", 1),)), True)
        self.assertIs(is_part_rows((("brick", "red", True),)), False)
        self.assertIs(is_part_rows((("brick", "red", 1), ("brick", "red", True))), False)


class Looks(unittest.TestCase):
    def test_against_the_plain_telling(self):
        for thing in NO_WORDS + NO_NUMBERS + NUMBERS + WORDS:
            self.assertIs(is_number(thing), plain_number(thing), thing)
            self.assertIs(is_word(thing), plain_word(thing), thing)

    def test_by_name(self):
        self.assertIs(is_number(thing=1), True)
        self.assertIs(is_word(thing="red"), True)
        self.assertIs(is_part_rows(thing=ROWS), True)

    def test_nothing_handed_in_is_changed(self):
        thing = [["brick", "red", [1, LONGEST_NUMBER]], ("brick", ["red"], 1)]
        kept = copy.deepcopy(thing)
        for look in (is_number, is_word, is_part_rows):
            look(thing)
            look((thing,))
            self.assertEqual(thing, kept)


if __name__ == "__main__":
    unittest.main()
