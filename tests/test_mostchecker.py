"""Points 40 to 42 and 46: MOST PAPERS told, and the look at them."""

import copy
import itertools
import unittest

from partkits.cases import build
from partkits.errors import NoPaper
from partkits.heaps import Heap
from partkits.most import most
from partkits.mostchecker import lets_most
from partkits.mostpapers import most_paper
from tests.most_support import (ANY, BLUE, HEAP, LARGE, LITTLE, LITTLE_HEAP, MANY_CHOICES, MANY_ROWS, RED, THINGS,
                                all_places, greatest, many_choices_heap, one_row, plain_sheet, some_things)
from tests.paper_support import Refusals, broken_gifts, small_heaps
from tests.support import (LARGEST, NO_NUMBERS, NO_TUPLES, NO_WORDS, all_just_tuples, chances, deep, made_odd, replaced,
                           shares_a_tuple, some_rows)
from tests.tree_support import node_words, plain_nodes, with_node

FIRST = {"thing": 2, "row": 3}
BAR_RED, BAR_BLUE, BAR_PLATE = ("bar", "brick", ("red",)), ("bar", "brick", ("blue",)), ("bar", "plate", None)
COUNT = ("count",)
# 0: THING 0, 1: its ROW 0, 2: THING 1, 3: bar, 4: count, 5: THING 2, 6: its ROW 1, 7, 8, 9: bars, 10: count, 11: count
INSIDE = ("row", 0, 0, ("thing", 1, BAR_RED, COUNT),
          ("thing", 2, ("row", 2, 1, BAR_PLATE, BAR_PLATE, BAR_PLATE), COUNT))
TREE = ("thing", 0, INSIDE, COUNT)
PLACES = (1, 2, 3)
DEALING = ((0, 0, 1), ((("red", 1),), (("blue", 1),), (("x", 1),)))
PAPER = (PLACES, DEALING, TREE)
NONE = ((), ((), ()))
ODD = NO_TUPLES + (deep(20, 1), deep(20, 1, True), [[]], ["count"], b"count")


def with_tree(tree):
    """The MOST PAPER with another tree."""
    return (PLACES, DEALING, tree)


class LetBy(unittest.TestCase, Refusals):
    def test_let_by(self):
        self.assertEqual(lets_most(HEAP, THINGS, PAPER), 3)
        self.assertEqual(lets_most(thing=PAPER, things=THINGS, heap=HEAP), 3)
        self.assertIs(type(lets_most(HEAP, THINGS, PAPER)), int)
        self.assertEqual(len(plain_nodes(TREE, FIRST)), 12)

    def test_whoever_wrote_it(self):
        inner = ("thing", 2, BAR_PLATE, COUNT)
        for tree in (("thing", 0, inner, COUNT), ("thing", 2, ("thing", 0, BAR_PLATE, COUNT), COUNT),
                     ("thing", 3, ("thing", 0, inner, COUNT), COUNT), ("thing", 0, ("thing", 3, inner, COUNT), COUNT),
                     ("thing", 1, ("thing", 0, ("row", 0, 0, BAR_RED, ("bar", "brick", ("blue", "red"))), COUNT), COUNT),
                     ("thing", 1, ("thing", 0, ("row", 0, 0, ("bar", "brick", None), BAR_BLUE), COUNT), COUNT),
                     ("thing", 2, ("row", 2, 1, ("thing", 0, BAR_PLATE, COUNT), ("thing", 0, BAR_PLATE, COUNT),
                                   BAR_PLATE), COUNT)):
            self.assertEqual(lets_most(HEAP, THINGS, with_tree(tree)), 3, tree)

    def test_a_tree_of_one_node(self):
        heap = HEAP.plus(Heap((("brick", "red", 1), ("plate", "x", 1))))
        dealing = build(heap, plain_sheet(THINGS, range(4)))[1]
        self.assertEqual(lets_most(heap, THINGS, ((0, 1, 2, 3), dealing, COUNT)), 4)
        for things in ((), ((),), ((), ())):
            places = tuple(range(len(things)))
            self.assertEqual(lets_most(Heap(), things, (places, ((), ()), COUNT)), len(things))
        self.assertEqual(lets_most(Heap(), (), NONE + (COUNT,)), 0)
        self.assert_no_paper("count", 0, lets_most, HEAP, THINGS, with_tree(COUNT))

    def test_rows_of_one_way_are_taken_as_soon_as_the_thing_is_in(self):
        things = (one_row((RED, RED)) + one_row((BLUE,), ()),)
        self.assertEqual(lets_most(HEAP, things, NONE + (("thing", 0, BAR_RED, COUNT),)), 0)
        self.assert_no_paper("bar", 0, lets_most, HEAP, things, NONE + (BAR_RED,))
        self.assert_no_paper("bar", 2, lets_most, HEAP, things, NONE + (("thing", 0, BAR_RED, BAR_RED),))
        tree = ("thing", 0, ("row", 0, 1, BAR_RED, BAR_RED), COUNT)
        self.assertEqual(lets_most(HEAP, things, NONE + (tree,)), 0)

    def test_how_things_stand_below_a_node_is_so_there_alone(self):
        things = (one_row((RED,)), one_row((RED,), (BLUE,)), one_row((BLUE,)))
        paper = ((0, 1), ((0, 1), ((("red", 1),), (("blue", 1),))))
        tree = ("thing", 0, ("thing", 1, ("row", 1, 0, BAR_RED, ("thing", 2, BAR_BLUE, COUNT)), COUNT), COUNT)
        self.assertEqual(lets_most(HEAP, things, paper + (tree,)), 2)
        wrong = with_node(tree, (2, 2, 4), ("thing", 2, BAR_RED, COUNT))
        self.assert_no_paper("bar", 5, lets_most, HEAP, things, paper + (wrong,))
        # 1 is OUT there, so that neither of its WAYS counts
        wrong = with_node(tree, (2, 3), BAR_RED)
        self.assert_no_paper("bar", 7, lets_most, HEAP, things, paper + (wrong,))

    def test_any_places_that_can_be_built_but_a_tree_for_so_many(self):
        seen = set()
        for places in all_places(THINGS):
            word, dealing = build(HEAP, plain_sheet(THINGS, places))
            if word == "dealt" and len(places) == 3:
                self.assertEqual(lets_most(HEAP, THINGS, (places, dealing, TREE)), 3)
            elif word == "dealt":
                self.assert_no_paper("count", 4, lets_most, HEAP, THINGS, (places, dealing, TREE))
            seen.add((word, len(places)))
        self.assertEqual(seen, {("cases", 4), ("cases", 3), ("cases", 2)} | {("dealt", size) for size in range(4)})

    def test_sixty_four_choices(self):
        heap = many_choices_heap(0, 5)
        paper = most_paper(heap, MANY_CHOICES)
        self.assertEqual(lets_most(heap, MANY_CHOICES, paper), 7)
        first_bar = node_words(paper[2], FIRST).index("bar")
        self.assert_no_paper("bar", first_bar, lets_most, heap.plus(many_choices_heap(1, 1)), MANY_CHOICES, paper)

    def test_large_counts(self):
        heap = Heap((("a", "r", LARGEST), ("a", "s", LARGEST)))
        tree = ("thing", 0, ("thing", 1, ("thing", 2, ("bar", "a", None), COUNT), COUNT), COUNT)
        given = ((("s", LARGEST),), (("r", LARGEST),))
        self.assert_no_paper("bar", 3, lets_most, heap, LARGE, ((0, 1), ((1, 0), given), tree))
        tree = with_node(tree, (2, 2, 2), ("row", 0, 0, ("bar", "a", None), ("bar", "a", None)))
        self.assertEqual(lets_most(heap, LARGE, ((0, 1), ((1, 0), given), tree)), 2)
        more = heap.plus(Heap((("a", "t", 1),)))
        self.assert_no_paper("bar", 4, lets_most, more, LARGE, ((0, 1), ((1, 0), given), tree))


class RefusedAheadOfTheTree(unittest.TestCase, Refusals):
    def test_shape(self):
        for wrong in ODD + ((), PAPER[:1], PAPER[:2], PAPER + (1,), PAPER + ((),), (PAPER,), list(PAPER), PAPER[1:],
                            PAPER * 2, TREE, COUNT, DEALING, ("row", 0, 0, 1), deep(5000, PAPER)):
            self.assert_no_paper("shape", -1, lets_most, HEAP, THINGS, wrong)

    def test_places(self):
        wrongs = ([1, 2, 3], (1, 3, 2), (3, 2, 1), (2, 1, 3), (1, 1, 2), (1, 2, 3, 3), (1, 2, 4), (-1, 1, 2), (1, 2, 3, 4),
                  (4,), (-1,), ((1, 2, 3),), (1, (2,), 3), (1, [2], 3), (1, 2, "3"), (True, 2, 3), (False, 1, 2), (True,),
                  (False,), (10 ** 199,), (-10 ** 199,), (None,), ("",), (Heap(),))
        for wrong in ODD + wrongs:
            self.assert_no_paper("places", -1, lets_most, HEAP, THINGS, (wrong, DEALING, TREE))
        for wrong in ((0,), (0, 1), (-1,), (True,)):
            self.assert_no_paper("places", -1, lets_most, HEAP, (), (wrong, ((), ()), COUNT))

    def test_dealing(self):
        choice, given = DEALING
        wrongs = list(ODD) + [(), DEALING[:1], DEALING + (1,), list(DEALING), (DEALING,), (list(choice), given)]
        wrongs += [(choice, wrong) for wrong in broken_gifts(given)]
        others = ((), (0, 0), (0, 0, 1, 0), (0, 0, 0), (0, 0, 2), (0, 0, 3), (0, 0, -1), (1, 0, 1), (0, 0, True),
                  (False, 0, 1), (0, "0", 1), ((0,), 0, 1))
        wrongs += [(wrong, given) for wrong in ODD + others]
        for wrong in wrongs:
            self.assert_no_paper("dealing", -1, lets_most, HEAP, THINGS, (PLACES, wrong, TREE))

    def test_a_dealing_of_other_places_or_that_is_not_served(self):
        for places in all_places(THINGS):
            if places not in (PLACES, PLACES[:2]):
                self.assert_no_paper("dealing", -1, lets_most, HEAP, THINGS, (places, DEALING, TREE))
        for part in (("brick", "red", 1), ("brick", "blue", 1), ("plate", "x", 1)):
            self.assert_no_paper("dealing", -1, lets_most, HEAP.less(Heap((part,))), THINGS, PAPER)
        given = ((("red", 1),), (("blue", 1),), (("y", 1),))
        self.assert_no_paper("dealing", -1, lets_most, HEAP, THINGS, (PLACES, (DEALING[0], given), TREE))

    def test_the_one_told_first_goes(self):
        for wrong in ((), 7, ("count", 1), ("bar", "x", None)):
            self.assert_no_paper("places", -1, lets_most, HEAP, THINGS, ((1, 1), wrong, wrong))
            self.assert_no_paper("dealing", -1, lets_most, HEAP, THINGS, (PLACES, wrong, wrong))
            self.assert_no_paper("shape", -1, lets_most, HEAP, THINGS, ((1, 1), wrong, wrong, wrong))
            self.assert_no_paper("shape", -1, lets_most, HEAP, THINGS, [(1, 1), wrong, wrong])


class RefusedInTheTree(unittest.TestCase, Refusals):
    def refused(self, word, number, tree):
        """That the tree is refused with this word and number."""
        self.assert_no_paper(word, number, lets_most, HEAP, THINGS, with_tree(tree))

    def refused_everywhere(self, word, wrongs, kinds):
        """That each thing that is made of a NODE of a kind is refused with the word and the number of the NODE."""
        for number, (path, node) in enumerate(plain_nodes(TREE, FIRST)):
            if node[0] in kinds:
                for wrong in wrongs(node):
                    self.refused(word, number, with_node(TREE, path, wrong))

    def test_shape(self):
        def wrongs(node):
            told = list(ODD) + [(), list(node), (node,), (node, node), node[1:], ("thing",), ("row",), ("bar",)]
            told += [COUNT + (1,), COUNT + ((),), COUNT * 3, COUNT * 4, ("thing", 1, COUNT), ("thing", 1) + (COUNT,) * 3]
            told += [("row", 0), ("bar", "plate"), BAR_PLATE + (None,), BAR_PLATE + ((),), ("bar", ("plate", None))]
            words = NO_TUPLES + ("Thing", "COUNT", " row", "bars", "leaf", "more", ())
            told += [replaced(node, 0, wrong) for wrong in words]
            return told
        self.refused_everywhere("shape", wrongs, ("thing", "row", "bar", "count"))

    def test_thing(self):
        places = NO_NUMBERS + (-1, -2, -4, 4, 5, 10 ** 199, -10 ** 199, [1], (2,), deep(15, 1))
        self.refused_everywhere("thing", lambda node: [("thing", wrong, COUNT, COUNT) for wrong in places],
                                ("thing", "row", "bar", "count"))
        self.refused_everywhere("thing", lambda node: [replaced(node, 1, wrong) for wrong in places], ("thing",))

    def test_a_thing_that_is_in_or_out_already(self):
        again = ("thing", 0, COUNT, COUNT)
        for path, number in (((2,), 1), ((2, 3), 2), ((2, 3, 2), 3), ((2, 3, 3), 4), ((2, 4, 2), 6), ((2, 4, 2, 4), 8),
                             ((3,), 11)):
            self.refused("thing", number, with_node(TREE, path, again))
        for path, k, number in (((2, 3, 2), 1, 3), ((2, 3, 3), 1, 4), ((2, 4, 2), 2, 6), ((2, 4, 3), 2, 10)):
            self.refused("thing", number, with_node(TREE, path, ("thing", k, COUNT, COUNT)))

    def test_true_is_no_one(self):
        for path, node in plain_nodes(TREE, FIRST):
            number = [own for own, inner in plain_nodes(TREE, FIRST)].index(path)
            if node[0] in ("thing", "row"):
                self.refused(node[0], number, with_node(TREE, path, replaced(node, 1, True)))
                self.refused(node[0], number, with_node(TREE, path, replaced(node, 1, False)))
            if node[0] == "row":
                self.refused(node[0], number, with_node(TREE, path, replaced(node, 2, bool(node[2]))))

    def test_row(self):
        wrongs = NO_NUMBERS + (-1, -2, 2, 3, 10 ** 199, -10 ** 199, [0], (1,), deep(15, 1))
        others = [wrong for wrong in wrongs + (4,) if wrong != 2]
        self.refused_everywhere("row", lambda node: [replaced(node, 2, wrong) for wrong in wrongs + (1 - node[2],)],
                                ("row",))
        self.refused_everywhere("row", lambda node: [replaced(node, 1, wrong) for wrong in others], ("row",))
        self.refused_everywhere("row", lambda node: [("row", wrong, 1) for wrong in NO_NUMBERS + (-1, 4, 3)],
                                ("thing", "row", "bar", "count"))

    def test_a_row_of_a_thing_that_is_not_in(self):
        row = ("row", 2, 1, BAR_PLATE, BAR_PLATE, BAR_PLATE)
        for path, number in (((), 0), ((2,), 1), ((2, 3), 2), ((2, 3, 2), 3), ((2, 4), 5), ((2, 4, 3), 10), ((3,), 11)):
            self.refused("row", number, with_node(TREE, path, row))
        row = ("row", 0, 0, BAR_PLATE, BAR_PLATE)
        for path, number in (((), 0), ((3,), 11)):
            self.refused("row", number, with_node(TREE, path, row))

    def test_a_row_counted_from_the_end(self):
        things = (one_row((RED,)), one_row((RED, RED), (BLUE, BLUE)))
        paper = ((0,), ((0,), ((("red", 1),),)))
        tree = ("thing", 1, ("row", 1, 0, BAR_RED, BAR_BLUE), COUNT)
        self.assertEqual(lets_most(HEAP, things, paper + (tree,)), 1)
        for k, j in ((-1, 0), (1, -1), (-1, -1), (2, 0), (0, 0), (1, 1)):
            wrong = with_node(tree, (2,), ("row", k, j, BAR_RED, BAR_BLUE))
            self.assert_no_paper("row", 1, lets_most, HEAP, things, paper + (wrong,))

    def test_a_row_of_one_way(self):
        for path, k, j, number in (((2,), 0, 1, 1), ((2, 3), 0, 1, 2), ((2, 3, 2), 1, 0, 3), ((2, 4, 2), 2, 0, 6),
                                   ((2, 4, 2, 3), 2, 0, 7)):
            self.refused("row", number, with_node(TREE, path, ("row", k, j, BAR_PLATE)))

    def test_a_row_that_is_taken_already(self):
        for path, k, j, ways, number in (((2, 3), 0, 0, 2, 2), ((2, 4), 0, 0, 2, 5), ((2, 4, 2, 3), 2, 1, 3, 7),
                                         ((2, 4, 2, 5), 2, 1, 3, 9), ((2, 4, 2, 4), 0, 0, 2, 8), ((2, 3, 3), 0, 0, 2, 4)):
            self.refused("row", number, with_node(TREE, path, ("row", k, j) + (BAR_PLATE,) * ways))

    def test_cases(self):
        self.refused_everywhere("cases", lambda node: [node[:3], node[:-1], node + (COUNT,), node + ((),), node + node],
                                ("row",))

    def test_bar(self):
        def wrongs(node):
            told = [("bar", wrong, None) for wrong in NO_WORDS] + [("bar", wrong, ("red",)) for wrong in NO_WORDS]
            told += [("bar", "brick", wrong) for wrong in NO_TUPLES + ((),) if wrong is not None]
            told += [("bar", "wheel", None), ("bar", "brick", ("red", "blue")), ("bar", "brick", ("red", "red")),
                     ("bar", "brick", ["red"]), ("bar", "brick", ("x",)), ("bar", "brick", ("red", 1)),
                     ("bar", None, "plate"), ("bar", "plate", ("x",)), ("bar", "plate", ()), ("bar", "plate", False),
                     ("bar", "plate", 0), ("bar", "brick", (True,)), ("bar", "brick", (["red"],)),
                     ("bar", "brick", deep(15, "red"))]
            return told
        self.refused_everywhere("bar", wrongs, ("thing", "row", "bar", "count"))

    def test_a_bar_of_other_wants(self):
        bars = (BAR_RED, BAR_BLUE, BAR_PLATE, ("bar", "brick", None), ("bar", "brick", ("blue", "red")))
        right = {3: (BAR_RED, bars[3], bars[4]), 7: (BAR_PLATE,), 8: (BAR_PLATE,), 9: (BAR_PLATE,), 6: (BAR_PLATE,)}
        for number, (path, node) in enumerate(plain_nodes(TREE, FIRST)):
            for bar in bars:
                if bar in right.get(number, ()):
                    self.assertEqual(lets_most(HEAP, THINGS, with_tree(with_node(TREE, path, bar))), 3)
                else:
                    self.refused("bar", number, with_node(TREE, path, bar))

    def test_count(self):
        for path, node in plain_nodes(TREE, FIRST):
            number = [own for own, inner in plain_nodes(TREE, FIRST)].index(path)
            if node != COUNT:
                self.refused("count", number, with_node(TREE, path, COUNT))
        # there all four are IN or UNDECIDED, however many are decided
        self.refused("count", 4, with_node(TREE, (2, 3, 2), ("thing", 3, COUNT, COUNT)))

    def test_of_several_faults_the_first_node_and_its_first_word(self):
        for tree, word, number in ((("thing", 9, 1, 1), "thing", 0), (("thing", 0, 1, 1), "shape", 1),
                                   (("row", 9, 9), "row", 0), (("row", 0, 0), "row", 0),
                                   (("bar", 1, 2, 3), "shape", 0), (["thing", 9], "shape", 0),
                                   (("thing", 0, ("row", 0, 0), 1), "cases", 1),
                                   (("thing", 0, ("row", 0, 1), 1), "row", 1),
                                   (("thing", 0, ("row", 0, 0, 1), 1), "cases", 1),
                                   (("thing", 0, ("row", 0, 0, 1, 1, 1), 1), "cases", 1),
                                   (("thing", 0, ("row", 0, 0, 1, 1), 1), "shape", 2),
                                   (("thing", 0, ("row", 0, 0, COUNT, 1), 1), "count", 2),
                                   (("thing", 0, ("row", True, 0, COUNT, 1), 1), "row", 1),
                                   (("thing", 0, ("row", 0, 0, INSIDE[3], 1), 1), "shape", 5),
                                   (("thing", 0, ("row", 0, 0, INSIDE[3], BAR_RED), 1), "bar", 5),
                                   (("thing", 0, INSIDE, 1), "shape", 11),
                                   (("thing", 0, INSIDE, ("thing", 0, 1, 1)), "thing", 11),
                                   (("thing", 0, INSIDE, ("thing", 1, COUNT, BAR_RED)), "bar", 13)):
            self.refused(word, number, tree)
        paths = [path for path, node in plain_nodes(TREE, FIRST)]
        for one, other in itertools.combinations(range(len(paths)), 2):
            if paths[other][:len(paths[one])] != paths[one]:
                self.refused("shape", one, with_node(with_node(TREE, paths[one], ()), paths[other], ()))
                self.refused("shape", one, with_node(with_node(TREE, paths[one], ()), paths[other], ("thing", 9, 1, 1)))
                self.refused("thing", one, with_node(with_node(TREE, paths[one], ("thing", 9, 1, 1)), paths[other], ()))

    def test_trees_deep_within_one_another(self):
        tree = COUNT
        for level in range(5000):
            tree = ("thing", 0, tree, COUNT)
        self.refused("thing", 1, tree)
        self.refused("thing", 1, ("thing", 0, tree, COUNT))
        self.refused("shape", 0, deep(5000, COUNT))
        self.refused("shape", 11, with_node(TREE, (3,), deep(5000, COUNT, True)))
        self.refused("bar", 11, with_node(TREE, (3,), ("bar", "brick", deep(5000, "red"))))
        self.refused("thing", 11, with_node(TREE, (3,), ("thing", deep(5000, 1), COUNT, COUNT)))

    def test_taken_by_its_families_alone(self):
        trees = ((), COUNT, BAR_RED, ("row", 0, 0), ("thing", 4, COUNT, COUNT), with_node(TREE, (2,), INSIDE[:4]))
        for thing in ((), ((1, 1), DEALING, TREE), (PLACES, (), TREE), *[with_tree(tree) for tree in trees]):
            self.assert_families(NoPaper, lambda: lets_most(HEAP, THINGS, thing))

    def test_nothing_handed_in_is_changed(self):
        heap, things = Heap(HEAP.rows()), copy.deepcopy(THINGS)
        for thing in (list(PAPER), ([1, 2, 3], DEALING, TREE), (PLACES, list(DEALING), TREE), with_tree(list(TREE)),
                      with_tree(("thing", [0], [1], [2])), with_tree(("thing", 0, ["row", 0, 0], [])),
                      with_tree(["count"])):
            kept = copy.deepcopy(thing)
            for again in range(2):
                with self.assertRaises(NoPaper):
                    lets_most(heap, things, thing)
            self.assertEqual(thing, kept)
        self.assertEqual((heap, things), (HEAP, THINGS))
        self.assertEqual(lets_most(heap, things, PAPER), 3)


def all_trees(things, undecided, rows, leaves):
    """All trees that ask THINGS that are UNDECIDED and these ROWS of others, with these leaves."""
    told = list(leaves)
    for k in undecided:
        rest = [other for other in undecided if other != k]
        own = [(k, j) for j, row in enumerate(things[k]) if len(row) > 1]
        told += [("thing", k) + nodes for nodes in itertools.product(all_trees(things, rest, rows + own, leaves),
                                                                     all_trees(things, rest, rows, leaves))]
    for k, j in rows:
        below = all_trees(things, undecided, [row for row in rows if row != (k, j)], leaves)
        told += [("row", k, j) + nodes for nodes in itertools.product(below, repeat=len(things[k][j]))]
    return told


class Wholly(unittest.TestCase):
    def is_let_by(self, heap, things, paper):
        """Whether a paper with a tree of right shape is let by."""
        try:
            self.assertEqual(lets_most(heap, things, paper), len(paper[0]))
        except NoPaper as refusal:
            self.assertIn(refusal.word, ("bar", "count"))
            self.assertEqual(node_words(paper[2], FIRST)[refusal.at], refusal.word)
            return False
        return True

    def test_what_is_let_by_is_so_and_there_always_is_one(self):
        one, other, any_shade = ("a", ("r",), 1), ("a", ("s",), 1), ("a", (), 1)
        leaves = [COUNT, ("bar", "a", None), ("bar", "a", ("r",))]
        seen = set()
        for things in ((), (one_row((one,)),), (one_row((one,), (any_shade, any_shade)),),
                       (one_row((one,)), one_row((any_shade,))), (one_row((one,)), one_row((one, other)))):
            trees = all_trees(things, list(range(len(things))), [], leaves)
            for heap in small_heaps(("a",), ("r", "s"), 2):
                size = greatest(heap, things)
                for places in all_places(things):
                    word, dealing = build(heap, plain_sheet(things, places))
                    if word == "dealt":
                        let = any(self.is_let_by(heap, things, (places, dealing, tree)) for tree in trees)
                        self.assertIs(let, len(places) == size, (heap, things, places))
                        seen.add((len(things), len(places), let))
        self.assertTrue({(1, 0, True), (1, 0, False), (1, 1, True), (2, 0, True), (2, 1, True), (2, 2, True)} <= seen)


class Told(unittest.TestCase):
    def told(self, heap, things):
        """Looks at a MOST PAPER closely; the words of its NODES."""
        paper = most_paper(heap, things)
        self.assertIs(type(paper), tuple)
        self.assertTrue(all_just_tuples(paper))
        places, dealing, tree = paper
        self.assertEqual(lets_most(heap, things, paper), len(places))
        self.assertEqual(len(places), len(most(heap, things)[0]))
        return node_words(tree, FIRST)

    def test_ordinary(self):
        self.assertIn("bar", self.told(HEAP, THINGS))
        self.assertEqual(most_paper(things=THINGS, heap=HEAP)[0], (1, 2, 3))
        self.assertEqual(most_paper(LITTLE_HEAP, LITTLE)[0], (1, 2))
        self.told(LITTLE_HEAP, LITTLE)
        words = self.told(Heap((("brick", "red", 1), ("brick", "blue", 1))), (one_row((RED,), (BLUE,)),) * 3)
        self.assertEqual(set(words), {"thing", "row", "bar", "count"})

    def test_a_tree_of_one_node(self):
        for heap, things in ((Heap(), ()), (HEAP, ()), (Heap(), ((),)), (HEAP, ((), (), ())), (HEAP, THINGS[1:]),
                             (HEAP.plus(HEAP), THINGS), (many_choices_heap(6, 0), MANY_CHOICES)):
            self.assertEqual(self.told(heap, things), ["count"])

    def test_none_at_once(self):
        self.assertNotEqual(self.told(Heap(), LITTLE), ["count"])
        self.assertEqual(most_paper(Heap(), LITTLE)[:2], NONE)

    def test_edges(self):
        for blue, lime in ((5, 0), (0, 3), (1, 1), (0, 0), (2, 3)):
            self.told(many_choices_heap(blue, lime), MANY_CHOICES)
        for rows in ((), (("brick", "red", 2),), (("brick", "red", 5), ("brick", "blue", 1)), (("brick", "blue", 3),)):
            self.told(Heap(rows), MANY_ROWS)
        for red, other in ((LARGEST, LARGEST), (LARGEST, LARGEST - 1), (LARGEST - 1, LARGEST), (1, LARGEST - 2)):
            self.told(Heap((("a", "r", red), ("a", "s", other))), LARGE)
        forty = Heap(tuple(("a", x + y, LARGEST // 40) for x in "abcde" for y in "stuvwxyz"))
        self.told(forty, LARGE)
        self.told(forty.less(Heap((("a", "as", 1),))), LARGE)

    def test_a_tree_that_lies_deep(self):
        want = tuple(("a", (shade,), 1) for shade in "rstuv")
        things = (one_row(*[(own,) for own in want[:2]]),) * 6 + (one_row(want[:1]), one_row(want[1:2]))
        heap = Heap((("a", "r", 3), ("a", "s", 4)))
        paths = [path for path, node in plain_nodes(most_paper(heap, things)[2], FIRST)]
        self.assertGreater(max(len(path) for path in paths), 10)
        self.told(heap, things)
        self.assertEqual(lets_most(heap, things, most_paper(heap, things)), 7)

    def test_what_is_told_is_let_by(self):
        for chance in chances(300):
            heap, things = Heap(some_rows(chance, most=5, many=2)), some_things(chance)
            self.told(heap, things)
            paper = most_paper(heap, things)
            self.assertEqual(len(paper[0]), greatest(heap, things))

    def test_new_and_nothing_is_changed(self):
        for things, heap in itertools.product((THINGS, made_odd(THINGS), LITTLE, (), ((),)), (HEAP, Heap(), LITTLE_HEAP)):
            kept, before = copy.deepcopy(things), heap.rows()
            one, other = most_paper(heap, things), most_paper(heap, things)
            self.assertFalse(shares_a_tuple(one, other))
            self.assertFalse(shares_a_tuple(one, things))
            self.assertEqual((things, heap.rows()), (kept, before))

    def test_a_part_more_leaves_the_dealing_but_perhaps_not_the_tree(self):
        for chance in chances(60):
            heap, things = Heap(some_rows(chance, most=4, many=2)), some_things(chance)
            paper = most_paper(heap, things)
            more = heap.plus(Heap((("a", "red", 1),)))
            if greatest(more, things) == len(paper[0]):
                self.assertEqual(lets_most(more, things, paper[:2] + most_paper(more, things)[2:]), len(paper[0]))
            else:
                with self.assertRaises(NoPaper) as caught:
                    lets_most(more, things, paper)
                self.assertEqual(caught.exception.word, "bar")


if __name__ == "__main__":
    unittest.main()
