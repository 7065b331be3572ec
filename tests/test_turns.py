"""Points 31, 32 and 33: what turns no answer, and what was told handed in again."""

import itertools
import unittest

from partkits.barchecker import lets_bar
from partkits.casechecker import lets_cases
from partkits.cases import build
from partkits.changechecker import lets_changed
from partkits.changes import changed, changes_in, is_changed
from partkits.dealing import deal
from partkits.dealings import given_sum, is_given, serves
from partkits.errors import NoDealing
from partkits.heaps import Heap
from partkits.leastmost import least_most
from partkits.lmchecker import lets_least_most
from partkits.lmpapers import span_paper
from partkits.wording import renamed, sheet_renamed
from tests.support import chances, some_rows, some_sheet, some_want

FORMS = ("a", "ab", "b")
SHADES = ("blue", "re", "red")
PARTS = tuple(itertools.product(FORMS, SHADES))


def answers(heap, wants):
    """What hangs on no order and no name: dealt or not, and how many CHANGES."""
    try:
        return deal(heap, wants)[0], changed(heap, wants)[0]
    except NoDealing:
        return deal(heap, wants)[0], None


def spans(heap, wants, parts=PARTS):
    """(least, most) of each PART; None where there is no GIVEN."""
    try:
        return [least_most(heap, wants, form, shade) for form, shade in parts]
    except NoDealing:
        return None


def cases(many):
    """HEAPS and WANTS of few FORMS and SHADES, some dealt and some barred."""
    for chance in chances(many):
        rows = some_rows(chance, most=8)
        yield chance, Heap(rows), tuple(some_want(chance, 3) for at in range(chance.randint(1, 4)))


def called_otherwise(wants, pairs):
    """The WANTS with FORMS and SHADES called as the PAIRS tell."""
    return sheet_renamed(((wants,),), *pairs)[0][0]


class SameAnswers(unittest.TestCase):
    def test_both_kinds_of_answers_are_there(self):
        told = {answers(heap, wants) for chance, heap, wants in cases(200)}
        self.assertTrue({("dealt", 0), ("bar", 1), ("bar", None)} <= told)

    def test_forms_and_shades_called_otherwise(self):
        for forms, shades in ((("ab", "b", "a"), SHADES), (FORMS, ("red", "blue", "re")), (("zz", "c", "x"), SHADES),
                              (FORMS, ("x", "a", "m")), (("blue", "red", "re"), ("b", "a", "ab"))):
            pairs = (tuple(zip(FORMS, forms)), tuple(zip(SHADES, shades)))
            for chance, heap, wants in cases(100):
                other, others = renamed(heap, *pairs), called_otherwise(wants, pairs)
                self.assertEqual(answers(other, others), answers(heap, wants))
                parts = [(dict(pairs[0])[form], dict(pairs[1])[shade]) for form, shade in PARTS]
                self.assertEqual(spans(other, others, parts), spans(heap, wants))

    def test_sheets_called_otherwise(self):
        pairs = ((("a", "ab"), ("ab", "a")), (("blue", "red"), ("re", "x"), ("red", "blue")))
        for chance in chances(100):
            heap, sheet = Heap(some_rows(chance, most=8)), some_sheet(chance)
            other, others = renamed(heap, *pairs), sheet_renamed(sheet, *pairs)
            self.assertEqual(build(other, others)[0], build(heap, sheet)[0])

    def test_wants_in_another_order(self):
        for chance, heap, wants in cases(100):
            told = answers(heap, wants), spans(heap, wants)
            for turned in itertools.permutations(wants):
                self.assertEqual((answers(heap, turned), spans(heap, turned)), told)

    def test_a_want_parted_in_two(self):
        parted = 0
        for chance, heap, wants in cases(200):
            told = answers(heap, wants), spans(heap, wants)
            for at, (form, shades, many) in enumerate(wants):
                for first in range(1, many):
                    two = ((form, shades, first), (form, shades, many - first))
                    for others in (wants[:at] + two + wants[at + 1:], two[:1] + wants[:at] + wants[at + 1:] + two[1:]):
                        self.assertEqual((answers(heap, others), spans(heap, others)), told)
                    parted += 1
        self.assertGreater(parted, 100)

    def test_each_form_by_itself(self):
        for chance, heap, wants in cases(200):
            own = {form: tuple(want for want in wants if want[0] == form) for form in FORMS}
            told = [answers(heap, own[form]) for form in FORMS]
            if all(word == "dealt" for word, changes in told):
                self.assertEqual(deal(heap, wants)[0], "dealt")
            else:
                self.assertEqual(deal(heap, wants)[0], "bar")
            numbers = [changes for word, changes in told]
            self.assertEqual(answers(heap, wants)[1], None if None in numbers else sum(numbers))

    def test_a_bar_of_some_wants_is_one_of_all(self):
        for chance, heap, wants in cases(200):
            for form in FORMS:
                own = tuple(want for want in wants if want[0] == form)
                word, paper = deal(heap, own)
                if word == "bar":
                    self.assertIs(lets_bar(heap, wants, paper), True)

    def test_least_and_most_hang_on_their_form_alone(self):
        some = 0
        for chance, heap, wants in cases(200):
            told = spans(heap, wants)
            if told is None:
                continue
            for (form, shade), span in zip(PARTS, told):
                own = tuple(want for want in wants if want[0] == form)
                rows = tuple(row for row in heap.rows() if row[0] == form)
                self.assertEqual(least_most(heap, own, form, shade), span)
                self.assertEqual(least_most(Heap(rows), own, form, shade), span)
                more = heap.plus(Heap((("x", shade, 3), ("y", "red", 1))))
                self.assertEqual(least_most(more, wants + (("x", (shade,), 2),), form, shade), span)
                some += 1
        self.assertGreater(some, 200)

    def test_givens_of_two_forms_put_together(self):
        for chance, heap, wants in cases(200):
            ones, others = [tuple(want for want in wants if (want[0] == "a") is one) for one in (True, False)]
            told = deal(heap, ones), deal(heap, others)
            if told[0][0] == "dealt" and told[1][0] == "dealt":
                given = told[0][1] + told[1][1]
                self.assertIs(is_given(ones + others, given), True)
                self.assertIs(serves(heap, ones + others, given), True)


class Easier(unittest.TestCase):
    """A PART more, a WANT less, a SHADE more that is let."""

    def no_worse(self, heap, wants, other, others):
        word, changes = answers(heap, wants)
        now, fewer = answers(other, others)
        self.assertIn((word, now), (("dealt", "dealt"), ("bar", "bar"), ("bar", "dealt")))
        if changes is not None:
            self.assertLessEqual(fewer, changes)

    def test_a_part_more(self):
        for chance, heap, wants in cases(150):
            for form, shade in PARTS:
                more = heap.plus(Heap(((form, shade, 1),)))
                self.no_worse(heap, wants, more, wants)
                word, told = deal(heap, wants)
                if word == "dealt":
                    self.assertIs(serves(more, wants, told), True)
                word, told = deal(more, wants)
                if word == "bar":
                    self.assertIs(lets_bar(heap, wants, told), True)

    def test_a_want_less(self):
        for chance, heap, wants in cases(150):
            for at in range(len(wants)):
                self.no_worse(heap, wants, heap, wants[:at] + wants[at + 1:])

    def test_sheets_with_a_part_more_or_a_want_less(self):
        for chance in chances(100):
            heap, sheet = Heap(some_rows(chance, most=8)), some_sheet(chance)
            word, told = build(heap, sheet)
            if word == "cases":
                for form, shade, many in heap.rows():
                    self.assertEqual(build(heap.less(Heap(((form, shade, 1),))), sheet)[0], "cases")
                self.assertGreater(lets_cases(Heap(), sheet, told), 0)
                continue
            for form, shade in PARTS:
                self.assertEqual(build(heap.plus(Heap(((form, shade, 1),))), sheet)[0], "dealt")
            fewer = tuple(tuple(way[:-1] for way in row) for row in sheet)
            self.assertEqual(build(heap, fewer)[0], "dealt")
            self.assertEqual(build(heap, sheet[:-1])[0], "dealt")

    def test_most_with_a_part_more(self):
        for chance, heap, wants in cases(150):
            told = spans(heap, wants)
            for at, (form, shade) in enumerate(PARTS):
                if told is not None:
                    least, most = least_most(heap.plus(Heap(((form, shade, 1),))), wants, form, shade)
                    self.assertEqual(least, told[at][0])
                    self.assertIn(most, (told[at][1], told[at][1] + 1))

    def test_a_shade_more(self):
        for chance, heap, wants in cases(150):
            for at, (form, shades, many) in enumerate(wants):
                for shade in SHADES:
                    if shades and shade not in shades:
                        more = (form, tuple(sorted(shades + (shade,))), many)
                        self.no_worse(heap, wants, heap, wants[:at] + (more,) + wants[at + 1:])


class HandedInAgain(unittest.TestCase):
    def test_givens_and_changed_givens_and_bars(self):
        seen = set()
        for chance, heap, wants in cases(200):
            word, told = deal(heap, wants)
            seen.add(word)
            if word == "dealt":
                self.assertIs(is_changed(wants, told), True)
                self.assertEqual(changes_in(wants, told), 0)
                self.assertEqual(lets_changed(heap, wants, (told, ())), 0)
                self.assertEqual(deal(given_sum(wants, told), wants)[0], "dealt")
                self.assertIs(is_given(wants, changed(heap, wants)[1]), True)
            else:
                for look in (is_given, is_changed):
                    self.assertIs(look(wants, told), False)
        self.assertEqual(seen, {"dealt", "bar"})

    def test_span_papers_in_part(self):
        for chance, heap, wants in cases(100):
            for form, shade in PARTS if deal(heap, wants)[0] == "dealt" else ():
                fewest, greatest, bar = span_paper(heap, wants, form, shade)
                least, most = lets_least_most(heap, wants, form, shade, (fewest, greatest, bar))
                for given in (fewest, greatest):
                    self.assertEqual(lets_changed(heap, wants, (given, ())), 0)
                if bar:
                    others = tuple(row for row in heap.rows() if row[:2] != (form, shade))
                    fewer = Heap(others + (((form, shade, least - 1),) if least > 1 else ()))
                    self.assertIs(lets_bar(fewer, wants, bar), True)

    def test_a_bar_in_a_tree(self):
        for chance, heap, wants in cases(100):
            word, told = deal(heap, wants)
            if word == "bar":
                self.assertEqual(lets_cases(heap, ((wants,),), ("bar",) + told), 1)
                self.assertEqual(lets_cases(heap, ((wants,), ((), ())), ("row", 1) + (("bar",) + told,) * 2), 2)

    def test_sheets_and_heaps_as_told(self):
        for chance, heap, wants in cases(50):
            again = called_otherwise(wants, ())
            self.assertEqual(answers(renamed(heap), again), answers(heap, wants))
            for form, shade in PARTS:
                left = heap.less(Heap(((form, shade, heap.many(form, shade)),))) if heap.many(form, shade) else heap
                self.assertEqual(answers(left, wants), answers(Heap(left.rows()), wants))


if __name__ == "__main__":
    unittest.main()
