"""Point 26: the look at CHANGE PAPERS."""

import copy
import itertools
import unittest

from partkits.changechecker import lets_changed
from partkits.changes import changed
from partkits.errors import NoDealing, NoPaper
from partkits.heaps import Heap
from tests.paper_support import (Refusals, all_changed_givens, broken_gifts, plain_changes, plain_serves, small_heaps,
                                 small_wants, subsets)
from tests.support import LARGEST, NO_TUPLES, NO_WORDS, broken_shades, counted, deep, replaced

HEAP = Heap((("brick", "blue", 1), ("brick", "lime", 5), ("brick", "red", 1), ("plate", "red", 4)))
WANTS = (("brick", ("blue", "red"), 4), ("brick", ("red",), 1), ("plate", ("blue",), 2), ("plate", (), 1))
GIVEN = ((("blue", 1), ("lime", 2), ("red", 1)), (("lime", 1),), (("red", 2),), (("red", 1),))
SETS = (("brick", ("blue", "red")), ("plate", ("blue",)))
PAPER = (GIVEN, SETS)


class LetBy(unittest.TestCase, Refusals):
    def test_let_by(self):
        self.assertEqual(lets_changed(HEAP, WANTS, PAPER), 5)
        self.assertEqual(lets_changed(thing=PAPER, wants=WANTS, heap=HEAP), 5)
        self.assertIs(type(lets_changed(HEAP, WANTS, PAPER)), int)

    def test_whoever_wrote_it(self):
        other = ((("lime", 3), ("red", 1)), (("lime", 1),), (("red", 2),), (("red", 1),))
        self.assert_no_paper("many", -1, lets_changed, HEAP, WANTS, (other, SETS))
        other = ((("blue", 1), ("lime", 3)), (("red", 1),), (("red", 2),), (("red", 1),))
        self.assertEqual(lets_changed(HEAP, WANTS, (other, SETS)), 5)

    def test_sets_below_nought_are_counted_so(self):
        heap = Heap((("a", "r", 2), ("a", "s", 1), ("b", "r", 3), ("c", "t", 1)))
        wants = (("a", ("s",), 2), ("b", ("r",), 1))
        given = ((("r", 1), ("s", 1)), (("r", 1),))
        self.assertEqual(lets_changed(heap, wants, (given, (("a", ("s",)),))), 1)
        for sets in ((("a", ("s",)), ("b", ("r",))), (("a", ("s",)), ("c", ("t",))), (("a", ("r", "s")),),
                     (("a", ("r",)),), (("b", ("r",)),), ()):
            self.assert_no_paper("many", -1, lets_changed, heap, wants, (given, sets))
        self.assertEqual(lets_changed(heap, wants, (given, (("a", ("s",)), ("b", ("s",)), ("z", ("r",))))), 1)
        turned = ((("r", 2),), (("r", 1),))
        for sets in ((("a", ("s",)),), (("a", ("s",)), ("b", ("r",)))):
            self.assert_no_paper("many", -1, lets_changed, heap, wants, (turned, sets))

    def test_what_is_below_nought_may_take_away_from_others(self):
        heap = Heap((("a", "r", 2), ("b", "s", 3), ("b", "t", 1)))
        wants = (("a", ("x",), 2), ("b", ("t",), 2))
        given = ((("r", 2),), (("s", 1), ("t", 1)))
        self.assertEqual(lets_changed(heap, wants, (given, (("a", ("x",)), ("b", ("t",))))), 3)
        self.assertEqual(lets_changed(heap, wants, (given, (("a", ("x",)), ("b", ("t",)), ("c", ("t",))))), 3)
        self.assert_no_paper("many", -1, lets_changed, heap, wants, (given, (("a", ("r", "x")), ("b", ("t",)))))
        self.assert_no_paper("many", -1, lets_changed, heap, wants, (given, (("a", ("x",)), ("b", ("s", "t")))))

    def test_no_sets(self):
        heap = Heap((("a", "r", 2),))
        self.assertEqual(lets_changed(heap, (("a", ("r",), 2),), (((("r", 2),),), ())), 0)
        self.assertEqual(lets_changed(heap, (("a", (), 1),), (((("r", 1),),), ())), 0)
        self.assertEqual(lets_changed(Heap(), (), ((), ())), 0)
        self.assertEqual(lets_changed(heap, (), ((), ())), 0)
        self.assertEqual(lets_changed(heap, (), ((), (("a", ("s",)), ("b", ("r",))))), 0)
        self.assert_no_paper("many", -1, lets_changed, heap, (), ((), (("a", ("r",)),)))

    def test_wants_of_any_shade_do_not_count(self):
        heap = Heap((("a", "r", 3),))
        wants = (("a", (), 2), ("a", ("s",), 1))
        given = ((("r", 2),), (("r", 1),))
        self.assertEqual(lets_changed(heap, wants, (given, (("a", ("s",)),))), 1)
        self.assertEqual(lets_changed(heap, wants, (given, (("a", ("s", "t")),))), 1)
        self.assert_no_paper("many", -1, lets_changed, heap, wants, (given, (("a", ("r", "s")),)))

    def test_large_ones(self):
        wants = (("a", ("s",), LARGEST),) * 48
        heap = Heap((("a", "r", 48 * LARGEST), ("a", "s", 1)))
        given = ((("r", LARGEST - 1), ("s", 1)),) + ((("r", LARGEST),),) * 47
        self.assertEqual(lets_changed(heap, wants, (given, (("a", ("s",)),))), 48 * LARGEST - 1)
        worse = ((("r", LARGEST),),) * 48
        self.assert_no_paper("many", -1, lets_changed, heap, wants, (worse, (("a", ("s",)),)))


class Refused(unittest.TestCase, Refusals):
    def test_shape(self):
        things = list(NO_TUPLES) + [(), (GIVEN,), PAPER + ((),), list(PAPER), (PAPER,), GIVEN, SETS[:1], deep(15, PAPER),
                                    (5,) + PAPER, deep(20, 1), deep(20, 1, True), (1, 2), (1,) * 4999]
        things += [(wrong, SETS) for wrong in NO_TUPLES] + [(GIVEN, wrong) for wrong in NO_TUPLES]
        things += [(list(GIVEN), SETS), (GIVEN, list(SETS)), (GIVEN, None), (None, None)]
        for thing in things:
            self.assert_no_paper("shape", -1, lets_changed, HEAP, WANTS, thing)

    def test_given(self):
        for thing in broken_gifts(GIVEN) + [(), SETS, PAPER]:
            if isinstance(thing, tuple):
                self.assert_no_paper("given", -1, lets_changed, HEAP, WANTS, (thing, SETS))
        self.assert_no_paper("given", -1, lets_changed, HEAP, WANTS, (SETS, GIVEN))

    def test_serves(self):
        for given in (replaced(GIVEN, 1, (("red", 1),)), replaced(GIVEN, 1, (("green", 1),)),
                      replaced(GIVEN, 3, (("blue", 1),))):
            self.assert_no_paper("serves", -1, lets_changed, HEAP, WANTS, (given, SETS))
        for form, shade, many in (("brick", "blue", 1), ("brick", "red", 1), ("brick", "lime", 3), ("plate", "red", 2)):
            fewer = HEAP.less(Heap(((form, shade, many),)))
            self.assert_no_paper("serves", -1, lets_changed, fewer, WANTS, PAPER)
        self.assert_no_paper("serves", -1, lets_changed, Heap(), WANTS, PAPER)

    def test_set(self):
        for at, (form, shades) in enumerate(SETS):
            pair = SETS[at]
            wrongs = list(NO_TUPLES) + [(), (form,), pair + (1,), list(pair), (pair,), pair[::-1], (form, None),
                                        (form, ()), (form, list(shades)), ("brick", "blue")]
            wrongs += [(wrong, shades) for wrong in NO_WORDS] + [(form, wrong) for wrong in broken_shades(shades)]
            for wrong in wrongs:
                self.assert_no_paper("set", at, lets_changed, HEAP, WANTS, (GIVEN, replaced(SETS, at, wrong)))

    def test_forms_rise_each_once(self):
        for sets, at in ((SETS[::-1], 1), ((SETS[0], SETS[0]), 1), ((SETS[0], ("brick", ("zz",)), SETS[1]), 1),
                         ((SETS[0], SETS[1], SETS[1]), 2), ((SETS[0], SETS[1], ("brick", ("zz",))), 2),
                         ((("bricks", ("a",)), ("brick", ("b",))), 1), ((SETS[0], SETS[1], ("a", ("b",)), 1), 2)):
            self.assert_no_paper("set", at, lets_changed, HEAP, WANTS, (GIVEN, sets))

    def test_many(self):
        for sets in ((), SETS[:1], SETS[1:], (("brick", ("red",)), SETS[1]), (SETS[0], ("plate", ("blue", "red"))),
                     (("brick", ("blue", "lime", "red")), SETS[1])):
            self.assert_no_paper("many", -1, lets_changed, HEAP, WANTS, (GIVEN, sets))

    def test_of_several_faults_the_one_told_first(self):
        unserved, no_set = replaced(GIVEN, 1, (("red", 1),)), (("brick", ()),)
        broken = replaced(GIVEN, 1, (("red", 2),))
        for thing, word, at in (((broken, []), "shape", -1), ((broken, no_set, ()), "shape", -1),
                                ((broken, no_set), "given", -1), ((broken, ()), "given", -1),
                                ((unserved, no_set), "serves", -1), ((unserved, ()), "serves", -1),
                                ((GIVEN, no_set), "set", 0), ((GIVEN, SETS[:1] + no_set + (1,)), "set", 1),
                                ((GIVEN, (1, 2)), "set", 0), ((GIVEN, ()), "many", -1)):
            self.assert_no_paper(word, at, lets_changed, HEAP, WANTS, thing)

    def test_taken_by_its_families_alone(self):
        for thing in ((), ((), ()), (replaced(GIVEN, 1, (("red", 1),)), SETS), (GIVEN, (1,)), (GIVEN, ())):
            self.assert_families(NoPaper, lambda: lets_changed(HEAP, WANTS, thing))

    def test_nothing_handed_in_is_changed(self):
        heap = Heap(HEAP.rows())
        for thing in ([GIVEN, SETS], (GIVEN, (["brick", ["red"]],)), (GIVEN, ()), ((["x"], [("red", 1)]), SETS), ([], [])):
            kept = copy.deepcopy(thing)
            for again in range(2):
                with self.assertRaises(NoPaper):
                    lets_changed(heap, WANTS, thing)
            self.assertEqual(thing, kept)
        self.assertEqual(heap, HEAP)


class Wholly(unittest.TestCase):
    def test_what_is_let_by_has_the_fewest_changes(self):
        """Every CHANGED GIVEN with every set: what is let by is the least, and the least is let by with some set."""
        shades = ("r", "s", "t")
        sets = [()] + [(("a", some),) for some in subsets(shades)[1:]]
        lets = 0
        for heap, wants in itertools.product(small_heaps(("a",), shades[:2], 2), small_wants(("a",), shades[:2], (2,), 2)):
            served = [given for given in all_changed_givens(wants, shades)
                      if plain_serves(counted(heap.rows()), wants, given)]
            least = min([plain_changes(wants, given) for given in served], default=None)
            for given in served:
                told = []
                for some in sets:
                    try:
                        told.append(lets_changed(heap, wants, (given, some)))
                    except NoPaper as refusal:
                        self.assertEqual((refusal.word, refusal.at), ("many", -1))
                self.assertEqual(bool(told), plain_changes(wants, given) == least)
                self.assertTrue(set(told) <= {least})
                lets += len(told)
        self.assertGreater(lets, 100)

    def test_what_is_told_is_let_by(self):
        for heap, wants in itertools.product(small_heaps(("a", "b"), ("r", "s"), 1),
                                             small_wants(("a", "b"), ("r", "s"), (1,), 2)):
            try:
                changes, given, sets = changed(heap, wants)
            except NoDealing:
                continue
            self.assertEqual(lets_changed(heap, wants, (given, sets)), changes)


if __name__ == "__main__":
    unittest.main()
