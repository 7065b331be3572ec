"""Points 60 and 61: DEEDS, PAGES and TALES of any thing, a PAGE more or less, the PAGES up to an hour."""

import copy
import itertools
import unittest

from partkits.heaps import Heap
from partkits.pages import is_deed, is_page, is_tale, until, with_page, without_page
from tests.page_support import BARN, DEEDS, KINDS, LOST, ODD, ROWS, broken_deed, broken_page, broken_tale, pages_of
from tests.support import (LARGEST, LONGEST_NUMBER, MANYS, WORDS, all_just_tuples, chances, made_odd, replaced, shares_a_tuple)

PAGES = tuple(sorted((hour, number, deed) for hour, number, deed in
                     zip((0, 0, 0, 1, 2, 2, 5, 5, 5, 7, 9, 9, 30), (0, 1, 1, 4, 0, 2, 0, 0, 1, 3, 8, 8, 0), DEEDS)))


class Deeds(unittest.TestCase):
    def test_each_deed(self):
        for deed in DEEDS + tuple(made_odd(deed) for deed in DEEDS):
            self.assertIs(is_deed(deed), True, deed)
        self.assertIs(is_deed(thing=DEEDS[0]), True)
        self.assertEqual({deed[0] for deed in DEEDS}, set(KINDS))

    def test_numbers_and_words_of_each_size(self):
        for deed in DEEDS:
            for at, kind in enumerate(KINDS[deed[0]], 1):
                rights = {"w": WORDS, "c": MANYS + (0,), "m": MANYS, "p": (ROWS, LOST, ()), "s": (BARN, (), (((),),))}[kind]
                for right in rights:
                    self.assertIs(is_deed(replaced(deed, at, right)), True)

    def test_by_kind_alone(self):
        """A DEED may be one that CAN'T BE wherever it stands."""
        for deed in (("open", (), ROWS), ("lay", "x", LARGEST, 9, 9, "q", LARGEST), ("apart", "x", ROWS),
                     ("begin", "x", (((("a", ("b", "c"), LONGEST_NUMBER),),),)), ("lend", "x", ROWS * 100)):
            self.assertIs(is_deed(deed), True)

    def test_wrong_ones(self):
        for deed in DEEDS:
            for thing in broken_deed(deed):
                self.assertIs(is_deed(thing), False, thing)

    def test_the_word_of_one_with_the_things_of_another(self):
        for one, other in itertools.product(DEEDS, repeat=2):
            alike = KINDS[one[0]] == KINDS[other[0]]
            # () is a SHEET and PART ROWS
            void = {KINDS[one[0]], KINDS[other[0]]} == {"ws", "wp"} and other[2] == ()
            self.assertIs(is_deed(one[:1] + other[1:]), alike or void, (one, other))

    def test_no_deed_of_other_things(self):
        for thing in ODD + PAGES + (PAGES, (), Heap(ROWS)):
            self.assertIs(is_deed(thing), False, thing)


class Pages(unittest.TestCase):
    def test_each_deed(self):
        for page in PAGES + made_odd(PAGES):
            self.assertIs(is_page(page), True, page)
        self.assertIs(is_page(thing=PAGES[0]), True)
        for hour, number in itertools.product((0, 1, 12, LARGEST, LONGEST_NUMBER), repeat=2):
            self.assertIs(is_page((hour, number, DEEDS[0])), True)

    def test_wrong_ones(self):
        for page in pages_of(*DEEDS[::2]):
            for thing in broken_page(page):
                self.assertIs(is_page(thing), False, thing)

    def test_no_page_of_other_things(self):
        for thing in ODD + DEEDS + (PAGES, (), PAGES[:1], PAGES[:3]):
            self.assertIs(is_page(thing), False, thing)


class Tales(unittest.TestCase):
    def test_of_none_to_many_pages(self):
        for size in range(len(PAGES) + 1):
            for begin in range(len(PAGES) - size + 1):
                self.assertIs(is_tale(PAGES[begin:begin + size]), True)
        self.assertIs(is_tale(thing=made_odd(PAGES)), True)
        self.assertIs(is_tale(()), True)
        self.assertIs(is_tale(tuple((0, number, DEEDS[0]) for number in range(400))), True)

    def test_rising_by_hour_then_number_then_deed(self):
        deeds = sorted(DEEDS)
        for first, second in itertools.product(itertools.product((0, 1, 10), (0, 1, 10), deeds), repeat=2):
            self.assertIs(is_tale((first, second)), first < second)

    def test_rising_by_each_thing_of_a_deed(self):
        lay = ("lay", "barn", 1, 1, 1, "red", 1)
        for at, less, more in ((1, "bar", "barns"), (2, 0, 2), (3, 0, 2), (4, 0, 10), (5, "re", "redd"), (6, 1, 2)):
            ahead, behind = [(0, 0, replaced(lay, at, own)) for own in (less, more)]
            self.assertIs(is_tale((ahead, behind)), True)
            self.assertIs(is_tale((behind, ahead)), False)
        sheets = sorted([(), (((),),), BARN, BARN[:1], BARN[1:], (((("brick", (), 4),),),)])
        for rows in (sorted([ROWS, LOST, (), ROWS[1:]]),):
            for one, other in itertools.product(rows, repeat=2):
                self.assertIs(is_tale(((0, 0, ("open", (), one)), (0, 0, ("open", (), other)))), one < other)
        for one, other in itertools.product(sheets, repeat=2):
            self.assertIs(is_tale(((0, 0, ("begin", "x", one)), (0, 0, ("begin", "x", other)))), one < other)

    def test_wrong_ones(self):
        for tale in (PAGES[:4], PAGES[3:7], PAGES):
            for thing in broken_tale(tale):
                self.assertIs(is_tale(thing), False, thing)

    def test_pages_that_fall_or_stand_twice(self):
        for turned in itertools.permutations(PAGES[:4]):
            self.assertIs(is_tale(turned), turned == PAGES[:4])
        for at in range(len(PAGES)):
            self.assertIs(is_tale(PAGES[:at + 1] + PAGES[at:]), False)

    def test_wrong_ones_beside_right_ones(self):
        for page in PAGES[:3]:
            for thing in broken_page(page):
                self.assertIs(is_tale((page, thing)), False)
                self.assertIs(is_tale((thing, page)), False)

    def test_nothing_is_changed(self):
        for look in (is_deed, is_page, is_tale):
            for thing in (list(PAGES), [list(page) for page in PAGES], PAGES, [0, 0, ["open", [], []]], DEEDS[0]):
                kept = copy.deepcopy(thing)
                self.assertIs(look(thing), look(thing))
                self.assertEqual(thing, kept)


class MoreAndLess(unittest.TestCase):
    def looked_at(self, told, *handed_in):
        """What is told, a TALE, looked at closely."""
        self.assertIs(is_tale(told), True)
        self.assertTrue(all_just_tuples(told))
        self.assertFalse(any(shares_a_tuple(told, thing) for thing in handed_in))
        return told

    def test_a_page_more(self):
        for at, page in enumerate(PAGES):
            rest = PAGES[:at] + PAGES[at + 1:]
            self.assertEqual(self.looked_at(with_page(rest, page), rest, page), PAGES)
        self.assertEqual(with_page(page=PAGES[0], tale=PAGES[1:]), PAGES)
        self.assertEqual(with_page((), PAGES[0]), PAGES[:1])

    def test_a_page_that_is_there_already(self):
        for page in PAGES:
            self.assertEqual(self.looked_at(with_page(PAGES, page), PAGES), PAGES)
            self.assertEqual(with_page(PAGES, copy.deepcopy(page)), PAGES)

    def test_a_page_less(self):
        for at, page in enumerate(PAGES):
            rest = PAGES[:at] + PAGES[at + 1:]
            self.assertEqual(self.looked_at(without_page(PAGES, page), PAGES), rest)
            self.assertEqual(without_page(PAGES, copy.deepcopy(page)), rest)
        self.assertEqual(without_page(page=PAGES[0], tale=PAGES), PAGES[1:])
        self.assertEqual(without_page(PAGES[:1], PAGES[0]), ())

    def test_a_page_that_is_not_there(self):
        for at, page in enumerate(PAGES):
            rest = PAGES[:at] + PAGES[at + 1:]
            self.assertEqual(self.looked_at(without_page(rest, page), rest), rest)
        self.assertEqual(without_page((), PAGES[0]), ())

    def test_ahead_of_all_and_behind_all(self):
        ahead, behind = (0, 0, ("apart", "a", ())), (30, 1, ("apart", "a", ()))
        self.assertEqual(with_page(PAGES, ahead), (ahead,) + PAGES)
        self.assertEqual(with_page(PAGES, behind), PAGES + (behind,))
        for page in (ahead, behind):
            self.assertEqual(without_page(with_page(PAGES, page), page), PAGES)
            self.assertEqual(without_page(PAGES, page), PAGES)

    def test_almost_the_same_page(self):
        for page in PAGES:
            for other in (replaced(page, 0, page[0] + 100), replaced(page, 1, page[1] + 100)):
                self.assertEqual(len(with_page(PAGES, other)), len(PAGES) + 1)
                self.assertEqual(without_page(PAGES, other), PAGES)

    def test_whenever_and_how_often_they_were_told(self):
        for chance in chances(60):
            pages = [chance.choice(PAGES) for at in range(chance.randint(0, 20))]
            tale = ()
            for page in pages:
                tale = with_page(tale, page)
            self.assertEqual(tale, tuple(sorted(set(pages))))
            for page in chance.sample(pages, len(pages) // 2):
                tale = without_page(tale, page)
                self.assertNotIn(page, tale)
                pages = [own for own in pages if own != page]
                self.assertEqual(tale, tuple(sorted(set(pages))))

    def test_nothing_is_changed(self):
        tale, page, odd = copy.deepcopy(PAGES), copy.deepcopy(PAGES[3]), made_odd(PAGES)
        for own in (tale, odd):
            for ask in (with_page, without_page):
                self.looked_at(ask(own, page), own, page)
                self.looked_at(ask(own, (8, 8, made_odd(DEEDS[3]))), own)
        self.assertEqual((tale, page, odd), (PAGES, PAGES[3], PAGES))


class Until(unittest.TestCase):
    def test_each_hour(self):
        for hour in range(40):
            told = until(PAGES, hour)
            self.assertEqual(told, tuple(page for page in PAGES if page[0] <= hour))
            self.assertEqual(until(hour=hour, tale=PAGES), told)
            self.assertFalse(shares_a_tuple(told, PAGES))
            self.assertTrue(all_just_tuples(told))

    def test_of_nought_of_each_page_one_less_one_more_and_beyond_all(self):
        self.assertEqual(until(PAGES, 0), PAGES[:3])
        self.assertEqual(until(PAGES[3:], 0), ())
        for at, page in enumerate(PAGES):
            behind = [other for other in PAGES if other[0] == page[0]]
            self.assertEqual(until(PAGES, page[0])[-len(behind):], tuple(behind))
            self.assertEqual(until(PAGES, page[0] + 1)[:at + 1], PAGES[:at + 1])
            if page[0]:
                self.assertNotIn(page, until(PAGES, page[0] - 1))
        for hour in (30, 31, LARGEST, LONGEST_NUMBER):
            self.assertEqual(until(PAGES, hour), PAGES)

    def test_the_end(self):
        for told in (until(PAGES), until(PAGES, None), until(tale=PAGES, hour=None)):
            self.assertEqual(told, PAGES)
            self.assertTrue(all_just_tuples(told))
        self.assertTrue(all_just_tuples(until(made_odd(PAGES))))

    def test_no_pages(self):
        for hour in (None, 0, 1, LARGEST):
            self.assertEqual(until((), hour), ())

    def test_nothing_is_changed(self):
        tale = copy.deepcopy(PAGES)
        for hour in (None, 0, 5, 99):
            until(tale, hour)
        self.assertEqual(tale, PAGES)
        self.assertEqual(until(until(PAGES, 7), 2), until(PAGES, 2))
        self.assertEqual(until(until(PAGES, 2), 7), until(PAGES, 2))


if __name__ == "__main__":
    unittest.main()
