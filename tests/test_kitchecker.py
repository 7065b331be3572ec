"""Points 48 and 50 to 53: the looks at NEVERS and FEWEST PAPERS."""

import copy
import itertools
import unittest

from partkits.cases import build
from partkits.dealing import deal
from partkits.errors import NoKits, NoPaper
from partkits.heaps import Heap
from partkits.kitchecker import lets_kits, lets_never
from partkits.kitpapers import fewest_paper
from partkits.kitting import fewest
from tests.kit_support import (CAR, HEAP, KITS, SPARE, WALL, WANTS, TreeWalk, all_many, all_places, heap_of, is_never,
                               makes, plain_of, small_kits, some_kits, with_so_many)
from tests.paper_support import Refusals, broken_gifts, small_wants
from tests.support import (LARGEST, LONGEST_NUMBER, NO_MANYS, NO_NUMBERS, NO_TUPLES, NO_WORDS, broken_shades, chances,
                           deep, made_odd, replaced)
from tests.tree_support import plain_nodes, with_node

FIRST = {"more": 3}
# three KITS that have two of a PART each, of each of which three are wanted: F is 6, by threes of halves it would be 5
TWOS = (heap_of(r=2), heap_of(s=2), heap_of(t=2))
THREES = (("a", ("r",), 3), ("a", ("s",), 3), ("a", ("t",), 3))
SHEET = plain_of(*THREES)
MANY = (2, 2, 2)
DEALING = ((0, 0, 0), ((("r", 3),), (("s", 3),), (("t", 3),)))
LEAF_R, LEAF_S, LEAF_T = [("leaf", 1, (("a", (shade,), w),)) for shade, w in (("r", 5), ("s", 3), ("t", 1))]
HIGH = ("more", 1, 1, LEAF_S, LEAF_T)
TREE = ("more", 0, 1, LEAF_R, HIGH)
# the same by more entries: 0 splits at the least, 2 further up, 5 just below the most
NONE_OF_R = ("leaf", 1, (("a", ("r",), 2),))
LONG = ("more", 0, 0, NONE_OF_R, ("more", 0, 1, LEAF_R, ("more", 1, 2, ("more", 1, 1, LEAF_S, LEAF_T), LEAF_T)))
# the leasts and mosts with which TREE is gone through
SPANS = [((0, 0, 0), (5, 5, 5)), ((0, 0, 0), (1, 5, 5)), ((2, 0, 0), (5, 3, 3)), ((2, 0, 0), (5, 1, 3)),
         ((2, 2, 0), (3, 3, 1))]


def paper_with(tree):
    """The paper with another tree."""
    return (MANY, DEALING, tree)


def dealing_of(heap, kits, many, sheet):
    """A DEALING of the HEAP with so many of the KITS."""
    word, dealing = build(with_so_many(heap, kits, many), sheet)
    assert word == "dealt"
    return dealing


class Never(unittest.TestCase, Refusals):
    def refused(self, word, at, thing, heap=HEAP, kits=KITS, wants=WANTS):
        self.assert_no_paper(word, at, lets_never, heap, kits, plain_of(*wants), thing)

    def test_let_by(self):
        wants = WANTS + (("tile", ("y",), 1), ("door", (), 2))
        sheet = plain_of(*wants)
        for thing in (("tile", ("y",)), ("tile", ("w", "y")), ("door", None)):
            self.assertIs(lets_never(HEAP, KITS, sheet, thing), True)
        self.assertIs(lets_never(thing=("door", None), sheet=sheet, kits=KITS, heap=HEAP), True)
        self.assertIs(lets_never(HEAP, (), plain_of(("brick", ("blue", "red"), 2)), ("brick", ("blue", "red"))), True)
        self.assertIs(lets_never(HEAP, (Heap(), Heap()), plain_of(("brick", (), 2)), ("brick", None)), True)
        self.assertIs(lets_never(HEAP, KITS, ((wants[:2],), ((),), (wants[2:],)), ("door", None)), True)

    def test_wants_of_any_shade_are_wanted_at_none_alone(self):
        wants = (("tile", (), 9), ("tile", ("y",), 1))
        self.assertIs(lets_never(Heap(), (), plain_of(*wants), ("tile", None)), True)
        self.assertIs(lets_never(heap_of("tile", y=9), (), plain_of(*wants), ("tile", None)), True)
        self.refused("lack", -1, ("tile", ("y",)), heap=heap_of("tile", y=1), kits=(), wants=wants)
        self.refused("lack", -1, ("tile", ("x",)), heap=Heap(), kits=(), wants=wants)

    def test_counts_near_the_largest(self):
        sheet = plain_of(("a", ("r",), LARGEST), ("a", ("r", "s"), LARGEST))
        heap = heap_of(r=LARGEST, s=LARGEST - 1)
        self.assertIs(lets_never(heap, (), sheet, ("a", ("r", "s"))), True)
        self.assert_no_paper("lack", -1, lets_never, heap_of(r=LARGEST, s=LARGEST), (), sheet, ("a", ("r", "s")))

    def test_shape(self):
        things = list(NO_TUPLES) + [(), ("tile",), ("tile", ("y",), 1), ("tile", None, None), (None, "tile"),
                                    ["tile", ("y",)], ["tile", None], ("tile", ["y"]), ("tile", ()), ("tile", []),
                                    (("tile", ("y",)),), (("y",), "tile"), deep(18, ("tile", None)), (1,) * 4999]
        things += [(wrong, None) for wrong in NO_WORDS] + [(wrong, ("y",)) for wrong in NO_WORDS]
        for shades in (("y",), ("a", "b", "y")):
            things += [("tile", wrong) for wrong in broken_shades(shades) if wrong is not None]
        for thing in things:
            self.refused("shape", -1, thing)
            self.refused("shape", -1, thing, wants=WANTS + (("tile", ("y",), 1),))

    def test_lack(self):
        for thing in (("tile", ("y",)), ("wheel", ("white",)), ("plate", ("lime",)), ("plate", ("red",)), ("x", None),
                      ("brick", ("red",)), ("brick", ("lime", "red"))):
            self.refused("lack", -1, thing)
        self.refused("lack", -1, ("door", None), wants=())
        self.refused("lack", -1, ("brick", ("blue",)), kits=(), wants=(("brick", ("blue",), 1),))
        self.refused("lack", -1, ("wheel", None), kits=(), wants=(("wheel", (), 2),))

    def test_has(self):
        for thing, k in ((("wheel", None), 0), (("brick", ("blue",)), 1), (("brick", ("blue", "red")), 0),
                         (("plate", ("lime", "red")), 0), (("brick", None), 0)):
            self.refused("has", k, thing)
        wants = (("tile", ("x", "y"), 1), ("wheel", (), 3))
        self.refused("has", 2, ("tile", ("x", "y")), wants=wants)
        self.refused("has", 0, ("wheel", None), wants=wants)
        self.refused("has", 1, ("wheel", None), kits=(WALL, SPARE, CAR), wants=wants)
        self.refused("has", 3, ("tile", None), kits=(WALL, CAR, Heap(), SPARE), wants=wants)
        self.refused("has", 0, ("tile", None), kits=(SPARE,) * 4, wants=wants)

    def test_the_one_told_first(self):
        self.refused("shape", -1, ("brick", ()))
        self.refused("shape", -1, ["wheel", None])
        self.refused("lack", -1, ("tile", None))
        self.refused("lack", -1, ("brick", ("red",)), wants=())

    def test_taken_by_its_families_alone(self):
        for thing in ((), ("tile", None), ("wheel", None)):
            self.assert_families(NoPaper, lambda: lets_never(HEAP, KITS, plain_of(*WANTS), thing))

    def test_nothing_handed_in_is_changed(self):
        heap, sheet = Heap(HEAP.rows()), plain_of(*WANTS)
        for thing in (["tile", ["y"]], ("tile", ["y"]), ("tile", ("y",)), ("wheel", None), [[]]):
            kept = copy.deepcopy(thing)
            for again in range(2):
                with self.assertRaises(NoPaper):
                    lets_never(heap, KITS, sheet, thing)
            self.assertEqual(thing, kept)
        self.assertEqual((heap, sheet, KITS), (HEAP, plain_of(*WANTS), (CAR, WALL, SPARE)))

    def test_small_cases_gone_through_wholly(self):
        """Let by is just what is a NEVER; then no MANY MAKE the SHEET, and there is one wherever none do."""
        places = all_places(("a",), ("r", "s")) + [("b", None), ("a", ("r", "s", "t"))]
        seen = set()
        for kits, wants in itertools.product(small_kits((0, 2)), small_wants(("a",), ("r", "s"), (1, 3), 2)):
            for heap in (Heap(), heap_of(r=1), heap_of(r=1, s=2)):
                let = []
                for place in places:
                    try:
                        let.append(lets_never(heap, kits, plain_of(*wants), place))
                    except NoPaper as refusal:
                        self.assertIn(refusal.word, ("lack", "has"))
                        let.append(False)
                self.assertEqual(let, [is_never(heap, kits, wants, place) for place in places])
                enough = deal(with_so_many(heap, kits, (9,) * len(kits)), wants)[0] == "dealt"
                self.assertIs(any(let), not enough)
                if any(let):
                    self.assertFalse(any(makes(heap, kits, many, wants) for total in range(3)
                                         for many in all_many(len(kits), total)))
                seen.add(any(let))
        self.assertEqual(seen, {True, False})

    def test_what_is_told_is_let_by(self):
        nevers = 0
        for chance in chances(300):
            heap, kits, wants = some_kits(chance)
            for ask in (fewest, fewest_paper):
                try:
                    ask(heap, kits, plain_of(*wants))
                except NoKits as refusal:
                    self.assertIs(lets_never(heap, kits, plain_of(*wants), refusal.paper), True)
                    nevers += 1
        self.assertGreater(nevers, 50)


class LetBy(unittest.TestCase, TreeWalk, Refusals):
    def let_by(self, heap, kits, wants, paper):
        """F, as lets_kits tells it, and as the tree is gone through here."""
        self.walk(heap, kits, wants, sum(paper[0]), paper[2])
        told = lets_kits(heap, kits, plain_of(*wants), paper)
        self.assertIs(type(told), int)
        self.assertEqual(told, sum(paper[0]))
        return told

    def test_let_by(self):
        self.assertEqual(self.let_by(Heap(), TWOS, THREES, paper_with(TREE)), 6)
        self.assertEqual(lets_kits(thing=paper_with(TREE), sheet=SHEET, kits=TWOS, heap=Heap()), 6)
        self.assertEqual(self.let_by(Heap(), TWOS, THREES, paper_with(LONG)), 6)
        self.assertEqual(lets_kits(Heap(), TWOS, SHEET, made_odd(paper_with(TREE))), 6)

    def test_any_many_and_dealing_that_come_to_as_many(self):
        kits = TWOS[:1] * 3
        wants = (("a", (), 5),)
        tree = ("leaf", 2, (("a", None, 1),))
        for many in all_many(3, 3):
            self.assertEqual(self.let_by(Heap(), kits, wants, (many, ((0,), ((("r", 5),),)), tree)), 3)
        kits = (heap_of(r=2, s=2),)
        for red in range(1, 5):
            paper = ((2,), ((0,), ((("r", red), ("s", 5 - red)),)), ("leaf", 4, (("a", ("r", "s"), 1),)))
            self.assertEqual(self.let_by(Heap(), kits, (("a", ("r", "s"), 5),), paper), 2)

    def test_places_twice_and_out_of_order_are_counted_each(self):
        tree = ("leaf", 1, (("a", ("r",), 1), ("a", ("q",), 2), ("a", ("r",), 4)))
        self.assertEqual(lets_kits(Heap(), TWOS, SHEET, paper_with(with_node(TREE, (3,), tree))), 6)
        # places where nothing is wanted, and nothing is had, do no harm
        tree = ("leaf", 1, LEAF_R[2] + (("b", ("x", "y"), 7), ("c", None, LONGEST_NUMBER)))
        self.assertEqual(lets_kits(Heap(), TWOS, SHEET, paper_with(with_node(TREE, (3,), tree))), 6)

    def test_no_kits_wanted(self):
        for kits in ((), KITS, (Heap(),), (Heap(), CAR)):
            for wants in ((), (("brick", ("blue",), 1), ("wheel", (), 2))):
                paper = ((0,) * len(kits), dealing_of(HEAP, kits, (0,) * len(kits), plain_of(*wants)), ("leaf", 1, ()))
                self.assertEqual(self.let_by(HEAP, kits, wants, paper), 0)
                paper = replaced(paper, 2, ("leaf", LONGEST_NUMBER, ()))
                self.assertEqual(self.let_by(HEAP, kits, wants, paper), 0)

    def test_excesses_below_nought(self):
        # F is 0: each most is -1, so that excesses are put to the count
        wants = (("a", ("r",), 1),)
        heap, kits = heap_of(r=4), (heap_of(r=5),)
        paper = ((0,), ((0,), ((("r", 1),),)))
        self.assertEqual(self.let_by(heap, kits, wants, paper + (("leaf", 1, (("a", ("r",), 1),)),)), 0)
        self.assertEqual(self.let_by(heap, kits, wants, paper + (("leaf", 1, ()),)), 0)
        # the LACK is 1 - 4, the excess 5 - d: together above -d until there is none
        for d in range(1, 9):
            tree = ("leaf", d, (("a", ("r",), 1),))
            count = -3 + max(0, 5 - d)
            if count > -d:
                self.assertEqual(lets_kits(heap, kits, plain_of(*wants), paper + (tree,)), 0)
            else:
                self.assert_no_paper("bound", 0, lets_kits, heap, kits, plain_of(*wants), paper + (tree,))
        tree = ("leaf", 3, (("a", ("r",), 1),))
        more = heap_of(r=9)
        self.assert_no_paper("bound", 0, lets_kits, more, kits, plain_of(*wants), paper + (tree,))
        self.assert_no_paper("bound", 0, lets_kits, more, (), plain_of(*wants), ((),) + paper[1:] + (tree,))

    def test_a_lack_below_nought_is_counted_so(self):
        wants = (("a", ("r",), 3), ("b", (), 1))
        heap, kits = Heap((("b", "x", 5),)), (heap_of(r=2),)
        paper = ((2,), ((0, 0), ((("r", 3),), (("x", 1),))))
        self.assertEqual(self.let_by(heap, kits, wants, paper + (("leaf", 2, (("a", None, 1),)),)), 2)
        tree = ("leaf", 2, (("a", None, 1), ("b", None, 1)))
        self.assert_no_paper("bound", 0, lets_kits, heap, kits, plain_of(*wants), paper + (tree,))
        self.assertEqual(self.let_by(heap, kits, wants, paper + (("leaf", 2, (("a", None, 7), ("b", None, 1))),)), 2)

    def test_splits_at_the_least_and_just_below_the_most(self):
        self.assertEqual(SPANS, [entry[1:] for entry in self.walk(Heap(), TWOS, THREES, 6, TREE)])
        for a in range(5):
            low = LEAF_R if a <= 1 else ("more", 0, 1, LEAF_R, ("more", 1, 1, LEAF_S, LEAF_T))
            high = HIGH if a >= 1 and 5 - (a + 1) > 1 else None
            if a == 0:
                high = ("more", 0, 1, LEAF_R, HIGH)
            if high is None:
                high = ("leaf", 1, (("a", ("s",), 9), ("a", ("t",), 9)))
            self.assertEqual(self.let_by(Heap(), TWOS, THREES, paper_with(("more", 0, a, low, high))), 6, a)

    def test_a_high_one_brings_down_the_most_of_others(self):
        # with a least of 2 of the first, at most 1 of the last is left where 2 of the other one are taken, too
        self.assertEqual(self.let_by(Heap(), TWOS, THREES, paper_with(TREE)), 6)
        tree = ("more", 0, 1, LEAF_R, ("more", 1, 1, LEAF_S, ("more", 2, 0, LEAF_T, LEAF_T)))
        self.assertEqual(self.walk(Heap(), TWOS, THREES, 6, tree)[-1], ("leaf", (2, 2, 1), (2, 2, 1)))
        self.assertEqual(lets_kits(Heap(), TWOS, SHEET, paper_with(tree)), 6)
        tree = with_node(tree, (4, 4), ("more", 2, 1, LEAF_T, LEAF_T))
        self.assert_no_paper("split", 4, lets_kits, Heap(), TWOS, SHEET, paper_with(tree))

    def test_a_low_one_brings_down_its_own_most_alone(self):
        tree = ("more", 0, 1, ("more", 1, 4, LEAF_R, LEAF_R), HIGH)
        self.assertEqual(self.let_by(Heap(), TWOS, THREES, paper_with(tree)), 6)
        tree = ("more", 0, 1, ("more", 0, 0, NONE_OF_R, LEAF_R), HIGH)
        self.assertEqual(self.let_by(Heap(), TWOS, THREES, paper_with(tree)), 6)
        for a in (1, 2, 4):
            wrong = with_node(tree, (3,), ("more", 0, a, LEAF_R, LEAF_R))
            self.assert_no_paper("split", 1, lets_kits, Heap(), TWOS, SHEET, paper_with(wrong))

    def test_many_of_any_size(self):
        for size in (LARGEST + 1, 10 ** 30, LONGEST_NUMBER):
            paper = ((size,), ((0,), ((("r", size),),)), ("leaf", 1, (("a", None, 1),)))
            self.assertEqual(self.let_by(Heap(), (heap_of(r=1),), (("a", (), size),), paper), size)
            self.assert_no_paper("dealing", -1, lets_kits, Heap(), (heap_of(r=1),), plain_of(("a", (), size)),
                                 replaced(paper, 0, (size - 1,)))
            self.assert_no_paper("bound", 0, lets_kits, Heap(), (heap_of(r=1),), plain_of(("a", (), size)),
                                 replaced(paper, 0, (size + 1,)))
        wants = (("a", ("r",), 2 * LARGEST + 1),)
        many = (0, LARGEST + 1)
        tree = ("leaf", 2, (("a", ("r",), 1),))
        paper = (many, ((0,), ((("r", 2 * LARGEST + 1),),)), tree)
        self.assertEqual(self.let_by(Heap(), (heap_of(s=LARGEST), heap_of(r=2)), wants, paper), LARGEST + 1)

    def test_trees_deep_within_one_another(self):
        size = 3000
        kits, wants = (heap_of(r=1),), (("a", (), size),)
        tree = ("leaf", 1, (("a", None, 1),))
        for a in range(size - 2, -1, -1):
            tree = ("more", 0, a, ("leaf", 1, (("a", None, 1),)), tree)
        paper = ((size,), ((0,), ((("r", size),),)), tree)
        self.assertEqual(lets_kits(Heap(), kits, plain_of(*wants), paper), size)
        self.assert_no_paper("bound", 1, lets_kits, Heap(), kits, plain_of(*wants), ((size + 1,),) + paper[1:])
        for wrong, word in ((("leaf", 1, ()), "bound"), (("leaf", 0, ()), "weights"), ((), "entry")):
            tree = wrong
            for a in range(size - 2, -1, -1):
                tree = ("more", 0, a, ("leaf", 1, (("a", None, 1),)), tree)
            self.assert_no_paper(word, 2 * size - 2, lets_kits, Heap(), kits, plain_of(*wants), paper[:2] + (tree,))


class Refused(unittest.TestCase, TreeWalk, Refusals):
    def refused(self, word, at, thing, heap=Heap(), kits=TWOS, sheet=SHEET):
        self.assert_no_paper(word, at, lets_kits, heap, kits, sheet, thing)

    def refused_everywhere(self, word, wrongs, words):
        """That each wrong thing in the place of an entry with one of these words is refused with its number."""
        for tree in (TREE, LONG):
            entries = list(zip(plain_nodes(tree, FIRST), self.walk(Heap(), TWOS, THREES, 6, tree)))
            for number, ((path, entry), (own, leasts, mosts)) in enumerate(entries):
                for wrong in wrongs(entry, leasts, mosts) if own in words else ():
                    self.refused(word, number, paper_with(with_node(tree, path, wrong)))

    def test_shape(self):
        paper = paper_with(TREE)
        for thing in list(NO_TUPLES) + [(), paper[:1], paper[:2], paper[1:], paper + ((),), list(paper), (paper,), TREE,
                                        MANY[:2], deep(15, paper), deep(20, 1), deep(20, 1, True), (1,) * 4999,
                                        deep(5000, 1)]:
            self.refused("shape", -1, thing)

    def test_many(self):
        wrongs = list(NO_TUPLES) + [(), MANY[:2], MANY + (0,), MANY + MANY, list(MANY), (MANY,), deep(18, MANY)]
        for at in range(3):
            wrongs += [replaced(MANY, at, wrong) for wrong in NO_NUMBERS + (-1, -2, -LARGEST, -LONGEST_NUMBER, "2")]
        for wrong in wrongs:
            self.refused("many", -1, (wrong, DEALING, TREE))
        self.refused("many", -1, ((0,), ((), ()), ("leaf", 1, ())), kits=(), sheet=())
        self.refused("many", -1, ((True, 2, 3), DEALING, TREE))
        self.refused("many", -1, ((False, 3, 3), DEALING, TREE))

    def test_dealing(self):
        wrongs = list(NO_TUPLES) + [(), DEALING[:1], DEALING[1:], DEALING + ((),), list(DEALING), (DEALING,),
                                    DEALING[::-1], deep(15, DEALING)]
        choices = list(NO_TUPLES) + [(), (0,), (0, 0), (0, 0, 0, 0), (0, 0, 1), (0, -1, 0), (False, 0, 0), [0, 0, 0],
                                     (0, 0, None), (0, 0, "0")]
        wrongs += [(wrong, DEALING[1]) for wrong in choices]
        wrongs += [(DEALING[0], wrong) for wrong in broken_gifts(DEALING[1])]
        wrongs += [(DEALING[0], replaced(DEALING[1], 0, (("s", 3),))), (DEALING[0], DEALING[1][::-1])]
        for wrong in wrongs:
            self.refused("dealing", -1, (MANY, wrong, TREE))

    def test_a_dealing_of_another_heap(self):
        for many in all_many(3, 6):
            if many != MANY:
                self.refused("dealing", -1, (many, DEALING, TREE))
        self.refused("dealing", -1, paper_with(TREE), kits=TWOS[::-1][:2] + (heap_of(r=1),))
        self.refused("dealing", -1, paper_with(TREE), sheet=plain_of(*THREES[:2], ("a", ("t",), 4)))
        self.refused("dealing", -1, paper_with(TREE), sheet=plain_of(*THREES[:2], ("b", ("t",), 3)))
        self.refused("dealing", -1, ((0, 0, 0), DEALING, TREE))
        self.refused("dealing", -1, ((0, 0, 0), DEALING, TREE), heap=heap_of(r=3, s=3, t=2))

    def test_entry(self):
        def wrongs(entry, leasts, mosts):
            told = list(NO_TUPLES) + [(), (entry,), entry[:-1], entry[1:], entry + (1,), entry + (LEAF_R, LEAF_R),
                                      list(entry), entry[:1], (), deep(15, entry), deep(3000, entry), (1,) * 3, (1,) * 5]
            told += [replaced(entry, 0, wrong) for wrong in NO_WORDS + ("bar", "row", "mor", "lea", "more ", "leaves")]
            return told + [("more", 0, 1), ("more", 1, ()), ("leaf", 1, (), LEAF_R, LEAF_R), ("leaf", 1, (), ()),
                           ("more", 0, 1, LEAF_R), ("leaf", 1), ("leaf",), ("more",), MANY, "leaf", "more"]
        self.refused_everywhere("entry", wrongs, ("more", "leaf"))

    def test_which(self):
        def wrongs(entry, leasts, mosts):
            return [replaced(entry, 1, wrong) for wrong in NO_NUMBERS + (-1, -3, 3, 4, LARGEST, LONGEST_NUMBER)]
        self.refused_everywhere("which", wrongs, ("more",))
        for kits, wants in (((), ()), ((), (("brick", ("blue",), 1),))):
            sheet = plain_of(*wants)
            tree = ("more", 0, 0, ("leaf", 1, ()), ("leaf", 1, ()))
            paper = ((), dealing_of(HEAP, kits, (), sheet), tree)
            self.refused("which", 0, paper, heap=HEAP, kits=kits, sheet=sheet)

    def test_split(self):
        def wrongs(entry, leasts, mosts):
            k = entry[1]
            told = (leasts[k] - 1, mosts[k], mosts[k] + 1, -1, 5, LARGEST, -LARGEST, LONGEST_NUMBER, -LONGEST_NUMBER)
            return [replaced(entry, 2, wrong) for wrong in NO_NUMBERS + told]
        self.refused_everywhere("split", wrongs, ("more",))
        leaf = ("leaf", 1, ())
        for a in (-2, -1, 0, 1):
            paper = ((0, 0), ((), ()), ("more", 0, a, leaf, leaf))
            self.refused("split", 0, paper, kits=TWOS[:2], sheet=())

    def test_every_split_between_is_one(self):
        for number, (word, leasts, mosts) in enumerate(self.walk(Heap(), TWOS, THREES, 6, TREE)):
            path, entry = plain_nodes(TREE, FIRST)[number]
            for k in range(3):
                for a in range(leasts[k], mosts[k]):
                    wrong = with_node(TREE, path, ("more", k, a, None, None))
                    self.refused("entry", number + 1, paper_with(wrong))

    def test_weights(self):
        def wrongs(entry, leasts, mosts):
            told = [replaced(entry, 1, wrong) for wrong in NO_MANYS]
            weight = ("a", ("r", "s"), 2)
            rows = list(NO_TUPLES) + [(), weight[:2], weight[:1], weight + (1,), list(weight), (weight,), weight[::-1],
                                      ("a", 2), ("a", ("r",)), (("a", ("r",)), 2), ("a", None), ("a", (), 1)]
            rows += [replaced(weight, 0, wrong) for wrong in NO_WORDS]
            rows += [replaced(weight, 1, wrong) for wrong in broken_shades(("r", "s")) if wrong is not None]
            rows += [replaced(weight, 2, wrong) for wrong in NO_MANYS]
            told += [("leaf", 1, (row,)) for row in rows] + [("leaf", 1, entry[2] + (row,)) for row in rows]
            told += [("leaf", 1, (row,) + entry[2]) for row in rows[-8:]]
            told += [replaced(entry, 2, wrong) for wrong in NO_TUPLES] + [("leaf", 1, list(entry[2])), ("leaf", 1, weight)]
            return told + [("leaf", (), 1), ("leaf", 1, deep(15, weight)), ("leaf", 1, deep(3000, weight))]
        self.refused_everywhere("weights", wrongs, ("leaf",))

    def test_weights_in_the_place_of_a_node(self):
        for path, entry in plain_nodes(TREE, FIRST):
            number = [own for own, inner in plain_nodes(TREE, FIRST)].index(path)
            for wrong in (("leaf", 0, ()), ("leaf", True, ()), ("leaf", 1, (("a", (), 1),)), ("leaf", 1, [])):
                self.refused("weights", number, paper_with(with_node(TREE, path, wrong)))

    def test_bound(self):
        def wrongs(entry, leasts, mosts):
            told = [("leaf", 1, ()), ("leaf", LARGEST, ()), ("leaf", 1, (("b", None, 9),))]
            if sum(leasts) < 5:
                told += [("leaf", LARGEST, (("a", ("r", "s", "t"), 1),)), ("leaf", LARGEST, (("a", None, 9),))]
            return told
        self.refused_everywhere("bound", wrongs, ("more", "leaf"))
        # one less of each weight is just as much, and that is no more
        for path, form, w in (((3,), "r", 4), ((4, 3), "s", 2)):
            self.refused("bound", {(3,): 1, (4, 3): 3}[path], paper_with(with_node(TREE, path, ("leaf", 1, (
                ("a", (form,), w),)))))
        self.refused("bound", 0, ((3,), ((0,), ((("r", 4),),)), ("leaf", 2, (("a", None, 1),))), kits=TWOS[:1],
                     sheet=plain_of(("a", ("r",), 4)))

    def test_a_place_of_other_wants(self):
        for place in (("a", ("s",)), ("a", ("t",)), ("a", ("q",)), ("b", ("r",)), ("b", None), ("r", ("a",))):
            for w in (1, 5, LARGEST):
                self.refused("bound", 1, paper_with(with_node(TREE, (3,), ("leaf", 1, (place + (w,),)))))

    def test_no_fewer_but_not_the_fewest(self):
        """MANY that MAKE it, but are not the fewest, have no tree."""
        more = (3, 2, 2)
        for tree in (TREE, LONG, LEAF_R, HIGH):
            with self.assertRaises(NoPaper) as caught:
                lets_kits(Heap(), TWOS, SHEET, (more, DEALING, tree))
            self.assertEqual(caught.exception.word, "bound")

    def test_the_one_told_first(self):
        bad = ("more", 9, 9, None, None)
        for thing, word, at in ((((1,), 2), "shape", -1), ([1, 2, 3], "shape", -1), ((1, 2, 3), "many", -1),
                                (((1, 1), (), bad), "many", -1), (((0, 0, 0), DEALING, bad), "dealing", -1),
                                ((MANY, (), ()), "dealing", -1), (paper_with(bad), "which", 0),
                                (paper_with(("more", 9, 9, None)), "entry", 0),
                                (paper_with(("more", True, 9, None, None)), "which", 0),
                                (paper_with(("more", 0, 9, None, None)), "split", 0),
                                (paper_with(("more", 0, True, None, None)), "split", 0),
                                (paper_with(("more", 0, 1, None, bad)), "entry", 1),
                                (paper_with(("more", 0, 1, bad, None)), "which", 1),
                                (paper_with(("more", 0, 1, LEAF_R, bad)), "which", 2),
                                (paper_with(("more", 0, 1, ("leaf", 0, ()), bad)), "weights", 1),
                                (paper_with(("more", 0, 1, ("leaf", 1, ()), bad)), "bound", 1),
                                (paper_with(("more", 0, 1, ("leaf", 0, 1), bad)), "weights", 1),
                                (paper_with(("more", 0, 1, LEAF_R, ("more", 1, 1, LEAF_S, ()))), "entry", 4),
                                (paper_with(("more", 0, 1, LEAF_R, ("more", 1, 1, LEAF_R, ()))), "bound", 3)):
            self.refused(word, at, thing)
        paths = [path for path, entry in plain_nodes(LONG, FIRST)]
        for one, other in itertools.combinations(range(len(paths)), 2):
            if paths[other][:len(paths[one])] != paths[one]:
                tree = with_node(with_node(LONG, paths[one], ()), paths[other], bad)
                self.refused("entry", one, paper_with(tree))
                tree = with_node(with_node(LONG, paths[one], bad), paths[other], ())
                self.refused("which", one, paper_with(tree))

    def test_deep_within_one_another(self):
        tree = LEAF_R
        for level in range(5000):
            tree = ("more", 0, 0, tree, LEAF_R)
        self.refused("split", 1, paper_with(tree))
        self.refused("entry", 0, paper_with(deep(5000, LEAF_R)))
        self.refused("entry", 4, paper_with(with_node(TREE, (4, 4), deep(5000, LEAF_R, True))))
        self.refused("which", 2, paper_with(with_node(TREE, (4, 1), deep(5000, 1))))
        self.refused("split", 2, paper_with(with_node(TREE, (4, 2), deep(5000, 1))))
        self.refused("weights", 4, paper_with(with_node(TREE, (4, 4, 2), deep(5000, 1))))

    def test_taken_by_its_families_alone(self):
        for thing in ((), (1, 2, 3), (MANY, (), TREE), paper_with(()), paper_with(("more", 9, 9, 9, 9)),
                      paper_with(("more", 0, 9, 9, 9)), paper_with(("leaf", 0, ())), paper_with(("leaf", 1, ()))):
            self.assert_families(NoPaper, lambda: lets_kits(Heap(), TWOS, SHEET, thing))

    def test_nothing_handed_in_is_changed(self):
        heap, kits, sheet = Heap(), tuple(Heap(kit.rows()) for kit in TWOS), copy.deepcopy(SHEET)
        for thing in (list(paper_with(TREE)), ([2, 2, 2], DEALING, TREE), (MANY, list(DEALING), TREE),
                      paper_with(list(TREE)), paper_with(("more", [0], [1], [2], [3])),
                      paper_with(("more", 0, 1, ["leaf", 1, []], [])), paper_with(("leaf", 1, [["a", None, 1]]))):
            kept = copy.deepcopy(thing)
            for again in range(2):
                with self.assertRaises(NoPaper):
                    lets_kits(heap, kits, sheet, thing)
            self.assertEqual(thing, kept)
        self.assertEqual((heap, kits, sheet), (Heap(), TWOS, SHEET))
        self.assertEqual(lets_kits(heap, kits, sheet, paper_with(TREE)), 6)


def small_trees(kits, leaves):
    """All trees of one leaf, or of one node, or of two, the second one high, with these leaves."""
    told = list(leaves)
    nodes = [("more", k, a, low, high) for k, a, low, high in
             itertools.product(range(kits), range(2), leaves, leaves)]
    told += nodes
    told += [("more", k, a, leaves[at % len(leaves)], node) for k, a in itertools.product(range(kits), range(2))
             for at, node in enumerate(nodes)]
    return told


class Wholly(unittest.TestCase, TreeWalk):
    def is_right(self, heap, kits, wants, many, tree):
        """Whether the tree is a FEWEST TREE of what MANY come to, gone through here."""
        try:
            self.walk(heap, kits, wants, sum(many), tree)
        except AssertionError:
            return False
        return True

    def is_let_by(self, heap, kits, sheet, paper):
        try:
            self.assertEqual(lets_kits(heap, kits, sheet, paper), sum(paper[0]))
        except NoPaper as refusal:
            self.assertIn(refusal.word, ("split", "bound"))
            return False
        return True

    def test_what_is_let_by_is_so(self):
        """All small trees with all MANY that MAKE the SHEET: let by are the right ones, and then none fewer MAKE it."""
        places = [("a", ("r",)), ("a", ("s",)), ("a", None)]
        leaves = [("leaf", 1, ())] + [("leaf", d, (place + (w,),)) for place in places for d, w in ((1, 1), (2, 1), (1, 3))]
        leaves.append(("leaf", 2, (("a", ("r",), 1), ("a", ("s",), 1))))
        seen = set()
        cases = (((heap_of(r=2), heap_of(s=2)), (("a", ("r",), 1), ("a", ("s",), 1))),
                 ((heap_of(r=2), heap_of(s=2)), (("a", ("r",), 3), ("a", ("s",), 1))),
                 ((heap_of(r=1, s=1), heap_of(s=2)), (("a", ("r",), 1), ("a", (), 3))),
                 ((heap_of(r=3),), (("a", ("r",), 4),)), ((heap_of(r=1),), (("a", ("r", "s"), 3),)), ((Heap(),), ()))
        for kits, wants in cases:
            trees = small_trees(len(kits), leaves)
            for heap, total in itertools.product((Heap(), heap_of(r=1)), range(4)):
                for many in all_many(len(kits), total):
                    if not makes(heap, kits, many, wants):
                        continue
                    fewer = any(makes(heap, kits, other, wants) for less in range(total)
                                for other in all_many(len(kits), less))
                    dealing = dealing_of(heap, kits, many, plain_of(*wants))
                    for tree in trees:
                        let = self.is_let_by(heap, kits, plain_of(*wants), (many, dealing, tree))
                        self.assertIs(let, self.is_right(heap, kits, wants, many, tree), (heap, kits, wants, many, tree))
                        self.assertFalse(let and fewer)
                        seen.add((total, let, tree[0]))
        for total in range(4):
            self.assertIn((total, False, "more"), seen)
            self.assertIn((total, True, "leaf"), seen)
        self.assertIn((3, True, "more"), seen)


class Told(unittest.TestCase):
    def told(self, heap, kits, wants):
        """How many KITS fewest_paper's paper shows; None where there is none."""
        sheet = plain_of(*wants)
        try:
            paper = fewest_paper(heap, kits, sheet)
        except NoKits as refusal:
            self.assertIs(lets_never(heap, kits, sheet, refusal.paper), True)
            return None
        told = lets_kits(heap, kits, sheet, paper)
        self.assertEqual(told, sum(fewest(heap, kits, sheet)))
        return told

    def test_ordinary(self):
        self.assertEqual(self.told(HEAP, KITS, WANTS), 4)
        self.assertEqual(self.told(Heap(), TWOS, THREES), 6)
        self.assertEqual(self.told(Heap(), KITS, ()), 0)
        self.assertEqual(self.told(Heap(), (), ()), 0)
        self.assertIsNone(self.told(HEAP, KITS, (("door", (), 1),)))
        self.assertEqual(self.told(Heap(), (Heap(), WALL, WALL), (("brick", (), 7),)), 2)
        paper = fewest_paper(HEAP, KITS, ((WANTS[:2],), ((),), (WANTS[2:],)))
        self.assertEqual(lets_kits(HEAP, KITS, ((WANTS[:2],), ((),), (WANTS[2:],)), paper), 4)

    def test_many_far_above(self):
        self.assertEqual(self.told(Heap(), (heap_of(r=1),), (("a", (), LARGEST),) * 48), 48 * LARGEST)
        wants = tuple(("a", (shade,), LARGEST - 1) for shade in "rst")
        self.assertEqual(self.told(Heap(), TWOS, wants), 3 * LARGEST // 2)

    def test_deep_trees(self):
        alike = TWOS[:1] * 2 + TWOS[1:2] * 2
        self.assertEqual(self.told(Heap(), alike, (("a", ("r",), 61), ("a", ("s",), 61))), 62)

    def test_in_part_and_otherwise(self):
        """A tree as it was told, handed in for another F, or in part."""
        for chance in chances(60):
            heap, kits, wants = some_kits(chance)
            try:
                many, dealing, tree = fewest_paper(heap, kits, plain_of(*wants))
            except NoKits:
                continue
            for k in range(len(kits)):
                more = replaced(many, k, many[k] + 1)
                with self.assertRaises(NoPaper) as caught:
                    lets_kits(heap, kits, plain_of(*wants), (more, dealing, tree))
                self.assertIn(caught.exception.word, ("bound", "split"))
            for path, entry in plain_nodes(tree, FIRST)[1:]:
                with self.assertRaises(NoPaper) as caught:
                    lets_kits(heap, kits, plain_of(*wants), (many, dealing, with_node(tree, path, None)))
                self.assertEqual(caught.exception.word, "entry")

    def test_what_is_told_is_let_by(self):
        seen = set()
        for chance in chances(300):
            seen.add(self.told(*some_kits(chance)))
        self.assertTrue({None, 0, 1, 2, 3} <= seen)
        for chance in chances(60):
            shades = "rstu"[:chance.randint(2, 4)]
            kits = tuple(heap_of(**{shade: chance.randint(0, 3) for shade in shades})
                         for at in range(chance.randint(2, 4)))
            wants = tuple(("a", tuple(sorted(chance.sample(shades, chance.randint(0, 2)))), chance.randint(1, 6))
                          for at in range(chance.randint(2, 6)))
            self.told(heap_of(r=chance.randint(0, 1)), kits, wants)


if __name__ == "__main__":
    unittest.main()
