"""Points 70 to 74: a book, its STEPS, and what it tells."""

import copy
import itertools
import unittest

from partkits.book import Book
from partkits.errors import NoBack, NoPage, PageError
from partkits.heaps import Heap
from partkits.kinds import is_number, is_part_rows, is_word
from partkits.lines import shown_tale
from partkits.pages import is_deed, is_page, is_tale
from partkits.sheets import is_sheet
from partkits.telling import asides
from tests.page_support import ODD, broken_page, broken_tale
from tests.paper_support import Refusals
from tests.support import LARGEST, LONGEST_NUMBER, NO_NUMBERS, all_just_tuples, chances, made_odd, shares_a_tuple
from tests.tale_support import CANT_BE, GROUND, Story, some_tale

TALE = GROUND + tuple((20, at, deed) for at, deed in enumerate(CANT_BE[::5]))


def told_all(book):
    """All that a book tells, by its plain things."""
    return (book.tale(), book.steps(), [book.then(k) for k in range(len(book.steps()) + 1)], book.turned(), len(book),
            str(book))


def book_of(*pages):
    """A book that was told these PAGES."""
    book = Book()
    for page in pages:
        book.tell(page)
    return book


class Plain:
    """A book kept in another way: the PAGES as a set, all calls again for each look at what was ahead."""

    def __init__(self):
        self.calls, self.turns = [], ()

    def pages(self, many=None):
        told = set()
        for word, things in self.calls[:many]:
            told = told - things if word == "take" else told | things
        return tuple(sorted(told))

    def done(self, word, things):
        before = self.pages()
        self.calls.append((word, set(things)))
        self.note(before)

    def undone(self, times):
        before = self.pages()
        self.calls = self.calls[:len(self.calls) - times]
        self.note(before)

    def note(self, before):
        one, other = set(Story(before).aside), set(Story(self.pages()).aside)
        self.turns = tuple(page for page in sorted(set(before) & set(self.pages())) if (page in one) != (page in other))

    def told_all(self):
        tale = self.pages()
        return (tale, tuple(word for word, things in self.calls),
                [self.pages(k) for k in range(len(self.calls) + 1)], self.turns, len(tale), shown_tale(tale))


class Deeds(unittest.TestCase):
    def test_at_first(self):
        self.assertEqual(told_all(Book()), ((), (), [()], (), 0, ""))

    def test_tell(self):
        book = Book()
        for page in TALE[::-1]:
            self.assertIs(book.tell(page), True)
            self.assertIs(book.tell(thing=page), False)
        self.assertEqual(book.tale(), TALE)
        self.assertEqual(book.steps(), ("tell",) * (2 * len(TALE)))
        self.assertEqual(len(book), len(TALE))

    def test_take(self):
        book = book_of(*TALE)
        for left, page in zip(range(len(TALE) - 1, -1, -1), TALE[1::2] + TALE[::2]):
            self.assertEqual(book.take(page), left)
            self.assertNotIn(page, book.tale())
        self.assertEqual(book.tale(), ())
        self.assertEqual(book.steps(), ("tell",) * len(TALE) + ("take",) * len(TALE))
        book = book_of(TALE[0], TALE[0])
        told = book.take(thing=TALE[0])
        self.assertEqual((told, type(told)), (0, int))

    def test_bring(self):
        book = book_of(TALE[2], TALE[4])
        self.assertEqual(book.bring(TALE[1:4]), (TALE[1], TALE[3]))
        self.assertEqual(book.tale(), TALE[1:5])
        self.assertEqual(book.bring(thing=TALE), TALE[:1] + TALE[5:])
        self.assertEqual(book.bring(TALE), ())
        self.assertEqual(book.bring(()), ())
        self.assertEqual(book.tale(), TALE)
        self.assertEqual(book.steps(), ("tell",) * 2 + ("bring",) * 4)

    def test_back(self):
        for times in range(1, 7):
            book = book_of(*TALE[:2])
            book.take(TALE[0])
            book.bring(TALE)
            book.tell(TALE[3])
            book.take(TALE[4])
            words = ("tell", "tell", "take", "bring", "tell", "take")
            tales = [(), TALE[:1], TALE[:2], TALE[1:2], TALE, TALE, TALE[:4] + TALE[5:]]
            self.assertEqual([book.then(k) for k in range(7)], tales)
            self.assertEqual(book.back(times), words[::-1][:times])
            self.assertEqual(book.tale(), tales[6 - times])
            self.assertEqual(book.steps(), words[:6 - times])
            self.assertEqual([book.then(k) for k in range(7 - times)], tales[:7 - times])

    def test_back_by_one_where_it_is_left_out(self):
        book = book_of(*TALE[:3])
        self.assertEqual(book.back(), ("tell",))
        self.assertEqual(book.back(times=1), ("tell",))
        self.assertEqual(book.tale(), TALE[:1])
        self.assertEqual(book.back(1), ("tell",))
        with self.assertRaises(NoBack):
            book.back()

    def test_a_step_that_did_nothing_is_undone_alone(self):
        book = book_of(TALE[0], TALE[0])
        book.back()
        self.assertEqual(book.tale(), TALE[:1])
        book.bring(TALE[:1])
        book.back()
        self.assertEqual(book.tale(), TALE[:1])

    def test_further_on_behind_what_was_undone(self):
        book = book_of(*TALE[:4])
        book.back(2)
        book.tell(TALE[5])
        self.assertEqual([book.then(k) for k in range(4)], [(), TALE[:1], TALE[:2], TALE[:2] + TALE[5:6]])
        self.assertEqual(book.back(3), ("tell",) * 3)
        self.assertEqual(told_all(book)[:3], ((), (), [()]))


class Turned(unittest.TestCase):
    OPEN, LEND = (1, 0, ("open", (("brick", "red", 1),), ())), (2, 0, ("lend", "ann", (("brick", "red", 1),)))

    def test_ahead_of_the_first_call_and_behind_each(self):
        book = Book()
        self.assertEqual(book.turned(), ())
        book.tell(self.LEND)
        self.assertEqual(book.turned(), ())
        book.tell(self.OPEN)
        self.assertEqual(book.turned(), (self.LEND,))
        book.tell(self.OPEN)
        self.assertEqual(book.turned(), ())
        book.take(self.OPEN)
        self.assertEqual(book.turned(), (self.LEND,))
        book.bring((self.OPEN,))
        self.assertEqual(book.turned(), (self.LEND,))
        book.back()
        self.assertEqual(book.turned(), (self.LEND,))
        book.back()
        self.assertEqual(book.turned(), (self.LEND,))
        book.back(2)
        self.assertEqual(book.turned(), (self.LEND,))
        book.back()
        self.assertEqual(book.turned(), ())

    def test_what_is_refused_turns_nothing(self):
        book = book_of(self.LEND, self.OPEN)
        for ask in (lambda: book.tell(1), lambda: book.take(1), lambda: book.take(TALE[0]), lambda: book.bring(1),
                    lambda: book.back(9), lambda: book.then(9)):
            with self.assertRaises(PageError):
                ask()
            self.assertEqual(book.turned(), (self.LEND,))
        told_all(book)
        self.assertEqual(book.turned(), (self.LEND,))

    def test_only_pages_that_are_there_both_times(self):
        """A PAGE that comes and is ASIDE turns nothing of itself."""
        book = book_of(self.OPEN)
        book.tell((3, 0, ("lend", "bob", (("brick", "red", 2),))))
        self.assertEqual(book.turned(), ())
        book.tell((0, 0, ("open", (("brick", "red", 1),), ())))
        self.assertEqual(book.turned(), ((3, 0, ("lend", "bob", (("brick", "red", 2),))),))

    def test_rising_and_of_both_kinds(self):
        """One PAGE comes, by which one that was ASIDE is no more, and one that wasn't is."""
        first, second = self.LEND, (3, 0, ("lend", "bob", (("brick", "blue", 1),)))
        book = book_of((0, 0, ("begin", "barn", (((("brick", (), 1),),),))), (0, 1, ("open", (("brick", "blue", 1),), ())),
                       first, second)
        self.assertEqual(asides(book.tale()), (first,))
        book.bring(((1, 0, ("open", (("brick", "red", 1),), ())), (1, 1, ("lay", "barn", 0, 0, 0, "blue", 1))))
        self.assertEqual(asides(book.tale()), (second,))
        self.assertEqual(book.turned(), (first, second))
        book.back()
        self.assertEqual(book.turned(), (first, second))


class ByHand(unittest.TestCase):
    def test_told_in_any_order_twice_taken_brought_gone_back(self):
        turned = 0
        for chance in chances(120):
            tale = some_tale(chance, 20) or TALE
            book, plain = Book(), Plain()
            for at in range(chance.randint(1, 25)):
                word = chance.choice(("tell", "tell", "tell", "take", "bring", "back"))
                page = chance.choice(tale)
                if word == "tell":
                    self.assertIs(book.tell(page), page not in plain.pages())
                    plain.done("tell", [page])
                elif word == "take" and page in plain.pages():
                    self.assertEqual(book.take(page), len(plain.pages()) - 1)
                    plain.done("take", [page])
                elif word == "bring":
                    some = tuple(own for own in tale if chance.randint(0, 3) == 0)
                    self.assertEqual(book.bring(some), tuple(own for own in some if own not in plain.pages()))
                    plain.done("bring", some)
                elif word == "back" and plain.calls:
                    times = chance.randint(1, len(plain.calls))
                    self.assertEqual(book.back(times), tuple(own for own, things in plain.calls[::-1][:times]))
                    plain.undone(times)
                self.assertEqual(told_all(book), plain.told_all())
                turned += len(book.turned())
        self.assertGreater(turned, 50)

    def test_all_hangs_on_its_pages_alone(self):
        """Point 74: the same PAGES, however they were told."""
        for chance in chances(60):
            tale = some_tale(chance, 15)
            books = [book_of(*chance.sample(tale, len(tale))), book_of(*tale, *tale), Book(), Book()]
            books[2].bring(tale)
            books[3].bring(tuple(sorted(set(tale) | set(TALE))))
            for page in TALE:
                if page not in tale:
                    books[3].take(page)
            for one, other in itertools.product(books, repeat=2):
                self.assertEqual((one.tale(), len(one), str(one)), (tale, len(tale), shown_tale(tale)))
                self.assertTrue(one == other)


class LenTextAndLike(unittest.TestCase):
    def test_len_and_text(self):
        book = Book()
        self.assertEqual((len(book), str(book)), (0, ""))
        book.tell((3, 0, ("lay", "barn", 0, 1, 0, "red", 2)))
        self.assertEqual((len(book), str(book)), (1, "3 0 lay barn 0 1 0 red 2"))
        book.tell((2, 9, ("open", (), ())))
        self.assertEqual((len(book), str(book)), (2, "2 9 open - -\n3 0 lay barn 0 1 0 red 2"))

    def test_alike_just_where_both_have_one_tale(self):
        one, other = book_of(*TALE), Book()
        self.assertFalse(one == other)
        self.assertTrue(one != other)
        other.bring(TALE)
        self.assertTrue(one == other)
        self.assertFalse(one != other)
        other.take(TALE[0])
        self.assertFalse(one == other)
        self.assertTrue(Book() == Book())
        self.assertTrue(one == one)

    def test_alike_to_nothing_else(self):
        for book in (Book(), book_of(*TALE)):
            things = tuple(thing for thing in ODD if not isinstance(thing, Book))
            for thing in things + (book.tale(), str(book), len(book), (), 0, "", None, Heap(), [], book.steps(), (Book(),)):
                self.assertIs(book == thing, False)
                self.assertIs(thing == book, False)
                self.assertIs(book != thing, True)


class Refused(unittest.TestCase, Refusals):
    def unchanged(self, book, refusal, ask, word=None):
        """That it is refused just so, and that the book is as it was."""
        before = told_all(book)
        with self.assertRaises(refusal) as caught:
            ask()
        if word is not None:
            self.assertEqual(caught.exception.word, word)
        self.assertEqual(told_all(book), before)

    def test_no_page(self):
        book = book_of(*TALE[:3])
        for thing in broken_page(TALE[0]) + [TALE, TALE[:1], (), Book(), book, Heap(), str(book)]:
            for ask in (book.tell, book.take):
                self.unchanged(book, NoPage, lambda: ask(thing), "page")

    def test_no_such_page_to_be_taken(self):
        book = book_of(*TALE[:3])
        for page in TALE[3:]:
            self.unchanged(book, NoPage, lambda: book.take(page), "none")
        book.take(TALE[0])
        self.unchanged(book, NoPage, lambda: book.take(TALE[0]), "none")
        self.unchanged(book, NoPage, lambda: Book().take(TALE[0]), "none")

    def test_no_tale(self):
        book = book_of(*TALE[:3])
        for thing in broken_tale(TALE) + [TALE[0], TALE[::-1], TALE + TALE[-1:], list(TALE), Book(), book, Heap()]:
            self.unchanged(book, NoPage, lambda: book.bring(thing), "tale")

    def test_no_number_of_steps(self):
        book = book_of(*TALE[:3])
        for k in NO_NUMBERS + (-1, -3, 4, LARGEST, LONGEST_NUMBER, -LONGEST_NUMBER, book):
            self.unchanged(book, NoPage, lambda: book.then(k), "number")
        self.unchanged(Book(), NoPage, lambda: Book().then(1), "number")
        self.assertEqual(book.then(k=3), TALE[:3])
        book.back()
        self.unchanged(book, NoPage, lambda: book.then(3), "number")

    def test_no_way_back(self):
        book = book_of(*TALE[:3])
        for times in NO_NUMBERS + (0, -1, -3, 4, LARGEST, LONGEST_NUMBER, -LONGEST_NUMBER, book):
            self.unchanged(book, NoBack, lambda: book.back(times))
        fresh = Book()
        for times in (1, 0, True, None):
            self.unchanged(fresh, NoBack, lambda: fresh.back(times))
        self.unchanged(fresh, NoBack, fresh.back)

    def test_taken_by_their_families_alone(self):
        book = book_of(*TALE[:2])
        for ask in (lambda: book.tell(1), lambda: book.take(1), lambda: book.take(TALE[5]), lambda: book.bring(1),
                    lambda: book.then(5)):
            self.assert_families(NoPage, ask, family=PageError)
        self.assert_families(NoBack, lambda: book.back(7), family=PageError)


class Kept(unittest.TestCase):
    def test_what_is_told_is_new_and_of_just_that_kind(self):
        for tale in (TALE, made_odd(TALE)):
            book = Book()
            fresh = book.bring(tale)
            asked = (fresh, book.tale(), book.tale(), book.then(1), book.then(1), book.steps())
            book.take(TALE[0])
            asked += (book.turned(), book.turned(), book.tale())
            self.assertNotEqual(book.turned(), ())
            for told in asked:
                self.assertIs(type(told), tuple)
                self.assertTrue(all_just_tuples(told))
            for one, other in itertools.combinations(asked, 2):
                self.assertFalse(shares_a_tuple(one, other))
            for told in asked:
                self.assertFalse(shares_a_tuple(told, tale))
            self.assertTrue(all_just_tuples(book.back(2)))

    def test_what_is_kept_is_a_copy(self):
        page = made_odd(TALE[1])
        book = book_of(page)
        self.assertTrue(all_just_tuples(book.tale()))
        self.assertFalse(shares_a_tuple(book.tale(), page))
        self.assertEqual(page, TALE[1])

    def test_nothing_handed_in_is_changed(self):
        tale, odd = copy.deepcopy(TALE), [list(page) for page in TALE]
        kept = copy.deepcopy(odd)
        book = Book()
        book.bring(tale)
        book.tell(tale[0])
        book.take(tale[0])
        for ask in (book.tell, book.take, book.bring, book.then):
            with self.assertRaises(NoPage):
                ask(odd)
        self.assertEqual((tale, odd), (TALE, kept))

    def test_two_books_know_nothing_of_one_another(self):
        one, other = Book(), Book()
        for at, page in enumerate(TALE):
            (one if at % 2 else other).tell(page)
            self.assertEqual(one.tale(), TALE[1:at + 1:2])
            self.assertEqual(other.tale(), TALE[:at + 1:2])
        before = told_all(other)
        one.back(len(one.steps()))
        one.bring(TALE)
        self.assertEqual(told_all(other), before)

    def test_what_only_asks_changes_nothing(self):
        book = book_of(*TALE)
        before = told_all(book)
        for again in range(2):
            self.assertEqual(told_all(book), before)
            self.assertTrue(book == book)

    def test_a_book_is_no_other_thing(self):
        for book in (Book(), book_of(*TALE)):
            for look in (is_number, is_word, is_part_rows, is_sheet, is_deed, is_page, is_tale):
                self.assertIs(look(book), False)
                self.assertIs(look((book,)), False)


if __name__ == "__main__":
    unittest.main()
