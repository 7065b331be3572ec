"""Point 56: the look at PARTINGS."""

import copy
import itertools
import unittest

from partkits.apart import parting
from partkits.apartchecker import lets_parting
from partkits.cases import build
from partkits.classes import is_alike
from partkits.errors import NoPaper
from partkits.heaps import Heap
from tests.class_support import HEAP, SIX, VOCABULARY, moved, small_sheets_of, small_vocabularies, some_vocabulary
from tests.kit_support import all_places, heap_of, plain_of
from tests.paper_support import Refusals, broken_gifts, small_heaps
from tests.support import (LARGEST, NO_NUMBERS, NO_TUPLES, NO_WORDS, broken_sheet, chances, deep, made_odd, replaced,
                           some_rows)

ONE = Heap((("brick", "blue", 2), ("brick", "red", 3), ("plate", "lime", 2)))
OTHER = Heap((("brick", "blue", 4), ("brick", "red", 1), ("plate", "lime", 2)))
SHEET = plain_of(("brick", ("red",), 2), ("plate", ("lime",), 1), ("brick", (), 1))
DEALING = ((0, 0, 0), ((("red", 2),), (("lime", 1),), (("blue", 1),)))
BAR = ("brick", ("red",))
PAPER = (0, SHEET, DEALING, BAR)


class LetBy(unittest.TestCase, Refusals):
    def test_let_by(self):
        self.assertIs(lets_parting(VOCABULARY, ONE, OTHER, PAPER), True)
        self.assertIs(lets_parting(thing=PAPER, other=OTHER, one=ONE, vocabulary=VOCABULARY), True)
        self.assertIs(lets_parting(VOCABULARY, OTHER, ONE, replaced(PAPER, 0, 1)), True)
        self.assertIs(lets_parting(made_odd(VOCABULARY), ONE, OTHER, made_odd(PAPER)), True)

    def test_other_dealings_bars_and_sheets_do_as_well(self):
        for gift in ((("red", 1),), (("blue", 1),)):
            self.assertIs(lets_parting(VOCABULARY, ONE, OTHER, replaced(PAPER, 2, (
                (0, 0, 0), ((("red", 2),), (("lime", 1),), gift)))), True)
        for shades in (("red",), ("lime", "red"), ("a", "red", "z")):
            self.assertIs(lets_parting(VOCABULARY, ONE, OTHER, replaced(PAPER, 3, ("brick", shades))), True)
        sheet = (((("brick", ("red",), 1), ("brick", ("red",), 1)),), ((),))
        dealing = ((0, 0), ((("red", 1),), (("red", 1),)))
        self.assertIs(lets_parting(VOCABULARY, ONE, OTHER, (0, sheet, dealing, BAR)), True)
        more = ONE.plus(OTHER)
        sheet, dealing = plain_of(("brick", (), 6)), ((0,), ((("blue", 6),),))
        self.assertIs(lets_parting(VOCABULARY, ONE, more, (1, sheet, dealing, ("brick", None))), True)

    def test_large_counts(self):
        one, other = heap_of(r=LARGEST, s=LARGEST), heap_of(r=LARGEST, s=LARGEST - 1)
        sheet = plain_of(("a", ("r", "s"), LARGEST), ("a", ("r",), LARGEST))
        dealing = ((0, 0), ((("s", LARGEST),), (("r", LARGEST),)))
        self.assertIs(lets_parting(SIX, one, other, (0, sheet, dealing, ("a", ("r", "s")))), True)
        self.assert_no_paper("bar", -1, lets_parting, SIX, one, one, (0, sheet, dealing, ("a", ("r", "s"))))


class Refused(unittest.TestCase, Refusals):
    def refused(self, word, thing, vocabulary=VOCABULARY, one=ONE, other=OTHER):
        self.assert_no_paper(word, -1, lets_parting, vocabulary, one, other, thing)

    def test_shape(self):
        for thing in list(NO_TUPLES) + [(), PAPER[:1], PAPER[:2], PAPER[:3], PAPER[1:], PAPER + (0,), PAPER + PAPER,
                                        list(PAPER), (PAPER,), deep(10, PAPER), deep(20, 1), deep(20, 1, True),
                                        deep(5000, 1), (0,) * 4999, (0, SHEET, DEALING)]:
            self.refused("shape", thing)
        for side in NO_NUMBERS + (-1, 2, 3, LARGEST, -LARGEST):
            self.refused("shape", replaced(PAPER, 0, side))
            self.refused("shape", replaced(PAPER, 0, side), one=OTHER, other=ONE)

    def test_the_other_side(self):
        self.refused("dealing", replaced(PAPER, 0, 1))
        self.refused("dealing", PAPER, one=OTHER, other=ONE)

    def test_no_sheet(self):
        for wrong in broken_sheet(SHEET):
            self.refused("sheet", replaced(PAPER, 1, wrong))
        for wrong in (SHEET[0], SHEET[0][0], deep(5000, SHEET), DEALING, BAR, VOCABULARY):
            self.refused("sheet", replaced(PAPER, 1, wrong))

    def test_no_plain_sheet(self):
        for at in range(3):
            for row in (SHEET[at] * 2, SHEET[at] + ((),), ((),) + SHEET[at]):
                self.refused("sheet", replaced(PAPER, 1, replaced(SHEET, at, row)))

    def test_no_sheet_of_the_vocabulary(self):
        for want in (("brick", ("blue",), 1), ("brick", ("blue", "lime", "red"), 1), ("brick", ("lime",), 1),
                     ("plate", (), 1), ("plate", ("red",), 1), ("tile", (), 1), ("red", (), 1), ("wheel", ("x",), 1)):
            for at in range(4):
                self.refused("sheet", replaced(PAPER, 1, SHEET[:at] + ((((want),),),) + SHEET[at:]))
            self.refused("sheet", replaced(PAPER, 1, replaced(SHEET, 1, ((SHEET[1][0][0], want),))))
        for at in (0, 2, 3):
            self.refused("sheet", PAPER, vocabulary=VOCABULARY[:at] + VOCABULARY[at + 1:])
        self.refused("sheet", PAPER, vocabulary=())
        self.assertIs(lets_parting(VOCABULARY[:1] + VOCABULARY[2:4], ONE, OTHER, PAPER), True)

    def test_dealing(self):
        choices = list(NO_TUPLES) + [(), (0,), (0, 0), (0, 0, 0, 0), (0, 0, 1), (0, -1, 0), (False, 0, 0), [0, 0, 0],
                                     (0, 0, None), (0, 0, "0")]
        wrongs = list(NO_TUPLES) + [(), DEALING[:1], DEALING[1:], DEALING + ((),), list(DEALING), (DEALING,),
                                    DEALING[::-1], deep(15, DEALING), deep(5000, DEALING), None]
        wrongs += [(wrong, DEALING[1]) for wrong in choices]
        wrongs += [(DEALING[0], wrong) for wrong in broken_gifts(DEALING[1])]
        wrongs += [(DEALING[0], replaced(DEALING[1], 0, (("blue", 2),))), (DEALING[0], DEALING[1][::-1])]
        for wrong in wrongs:
            self.refused("dealing", replaced(PAPER, 2, wrong))

    def test_a_dealing_of_another_heap(self):
        self.refused("dealing", PAPER, one=Heap())
        self.refused("dealing", PAPER, one=OTHER)
        self.refused("dealing", PAPER, one=ONE.less(Heap((("brick", "red", 2),))))
        self.refused("dealing", PAPER, one=ONE.less(Heap((("brick", "blue", 2),))))
        self.refused("dealing", replaced(PAPER, 2, replaced(DEALING, 1, replaced(DEALING[1], 2, (("lime", 1),)))))

    def test_bar(self):
        wrongs = list(NO_TUPLES) + [(), list(BAR), BAR + (1,), (BAR,), BAR[:1], ("brick", ()), ("brick", ["red"]),
                                    ("brick", ("red", "blue")), ("brick", ("red", "red")), ("brick", ("blue",)),
                                    ("brick", None), ("plate", None), ("plate", ("lime",)), ("wheel", None),
                                    ("brick", ("blue", "red")), ("brick", "red"), ("brick", (True,)),
                                    ("brick", ("red", "a")), deep(15, BAR), deep(5000, BAR), SHEET, DEALING]
        wrongs += [(wrong, ("red",)) for wrong in NO_WORDS] + [("brick", ("red", wrong)) for wrong in NO_WORDS]
        for wrong in wrongs:
            self.refused("bar", replaced(PAPER, 3, wrong))

    def test_a_bar_of_the_heap_that_builds_it_or_of_none(self):
        more = OTHER.plus(Heap((("brick", "red", 1),)))
        self.refused("bar", PAPER, other=more)
        self.refused("bar", PAPER, other=ONE)
        # the other one lacks what this one has, but not by this BAR
        less = ONE.less(Heap((("plate", "lime", 2),)))
        self.refused("bar", PAPER, other=less)
        self.assertIs(lets_parting(VOCABULARY, ONE, less, replaced(PAPER, 3, ("plate", ("lime",)))), True)

    def test_void_sheets_part_nothing(self):
        for bar in (BAR, ("brick", None), ("plate", ("lime",)), None, ()):
            self.refused("bar", (0, (), ((), ()), bar))
            self.refused("bar", (1, ((((),)),), ((0,), ()), bar))

    def test_the_one_told_first(self):
        for thing, word in (((2, 1, 1, 1), "shape"), ((True, SHEET, DEALING, BAR), "shape"), ([0, 1, 1, 1], "shape"),
                            ((0, 1, 1), "shape"), ((0, 1, 1, 1), "sheet"), ((1, [], DEALING, BAR), "sheet"),
                            ((0, SHEET, 1, 1), "dealing"), ((1, SHEET, DEALING, 1), "dealing"),
                            ((0, SHEET, DEALING, 1), "bar")):
            self.refused(word, thing)

    def test_taken_by_its_families_alone(self):
        for thing in ((), (0, 1, 1, 1), (0, SHEET, 1, 1), (0, SHEET, DEALING, 1)):
            self.assert_families(NoPaper, lambda: lets_parting(VOCABULARY, ONE, OTHER, thing))

    def test_nothing_handed_in_is_changed(self):
        one, other, vocabulary = Heap(ONE.rows()), Heap(OTHER.rows()), copy.deepcopy(VOCABULARY)
        for thing in (list(PAPER), replaced(PAPER, 1, [[[]]]), replaced(PAPER, 2, list(DEALING)),
                      replaced(PAPER, 3, ["brick", ["red"]]), replaced(PAPER, 3, ("brick", None))):
            kept = copy.deepcopy(thing)
            for again in range(2):
                with self.assertRaises(NoPaper):
                    lets_parting(vocabulary, one, other, thing)
            self.assertEqual(thing, kept)
        self.assertEqual((one, other, vocabulary), (ONE, OTHER, VOCABULARY))
        self.assertIs(lets_parting(vocabulary, one, other, PAPER), True)


class Wholly(unittest.TestCase):
    def test_what_is_let_by_is_so(self):
        """All small SHEETS with all bars: where one is let by they aren't ALIKE, and else they are."""
        heaps = list(small_heaps(("a",), ("r", "s"), 1)) + [heap_of(r=2), heap_of(s=2)]
        bars = all_places(("a",), ("r", "s"))
        for vocabulary in small_vocabularies():
            sheets = [plain_of(*wants) for wants in small_sheets_of(vocabulary, (1, 2), 2)]
            for one, other in itertools.product(heaps, heaps):
                let = set()
                for side, sheet in itertools.product((0, 1), sheets):
                    word, dealing = build((one, other)[side], sheet)
                    for bar in bars if word == "dealt" else ():
                        try:
                            let.add(lets_parting(vocabulary, one, other, (side, sheet, dealing, bar)))
                        except NoPaper as refusal:
                            self.assertEqual((refusal.word, refusal.at), ("bar", -1))
                self.assertEqual(let, set() if is_alike(vocabulary, one, other) else {True})


class Told(unittest.TestCase):
    def test_what_is_told_is_let_by(self):
        seen = set()
        for chance in chances(300):
            vocabulary = some_vocabulary(chance)
            one, other = Heap(some_rows(chance, most=5)), Heap(some_rows(chance, most=5))
            if one and chance.randint(0, 1):
                other = moved(one, *one.rows()[0][:2], chance.choice(("re", "red", "blue", "white")))
            for first, second in ((one, other), (other, one)):
                paper = parting(vocabulary, first, second)
                self.assertIs(paper is None, is_alike(vocabulary, first, second))
                if paper is None:
                    self.refused_as_none(vocabulary, first, second)
                else:
                    self.assertIs(lets_parting(vocabulary, first, second, paper), True)
                    self.assertIs(lets_parting(vocabulary, second, first, replaced(paper, 0, 1 - paper[0])), True)
                seen.add(paper and paper[0])
        self.assertEqual(seen, {None, 0, 1})
        self.assertIs(lets_parting(VOCABULARY, HEAP, Heap(), parting(VOCABULARY, HEAP, Heap())), True)

    def refused_as_none(self, vocabulary, one, other):
        with self.assertRaises(NoPaper) as caught:
            lets_parting(vocabulary, one, other, None)
        self.assertEqual((caught.exception.word, caught.exception.at), ("shape", -1))


if __name__ == "__main__":
    unittest.main()
