"""Points 35, 36 and 38: the look at CASE TREES."""

import copy
import itertools
import unittest

from partkits.casechecker import lets_cases
from partkits.cases import build
from partkits.errors import NoPaper
from partkits.heaps import Heap
from tests.paper_support import Refusals, small_heaps, subsets
from tests.support import LARGEST, NO_NUMBERS, NO_TUPLES, NO_WORDS, builds, chances, deep, replaced, some_rows, some_sheet
from tests.tree_support import plain_nodes, with_node

RED, BLUE, ANY = ("brick", ("red",), 1), ("brick", ("blue",), 1), ("plate", (), 1)
# ROWS 1 and 3 have one WAY, ROWS 0, 2 and 4 several; a red brick alone is too few throughout
SHEET = (((RED,), (BLUE,)), ((RED,),), ((RED,), (), (ANY,)), ((),), ((BLUE,), (ANY, ANY)))
HEAP = Heap((("brick", "red", 1),))
BAR_RED, BAR_BLUE, BAR_PLATE = ("bar", "brick", ("red",)), ("bar", "brick", ("blue",)), ("bar", "plate", None)
FIRST = {"row": 2}
# 0: ROW 0, 1: bar, 2: ROW 4, 3: bar, 4: ROW 2, 5, 6, 7: bars
TREE = ("row", 0, BAR_RED, ("row", 4, BAR_BLUE, ("row", 2, BAR_PLATE, ("bar", "brick", None), BAR_PLATE)))


def all_trees(sheet, free, bars):
    """All trees that ask ROWS that are free, with these bars."""
    told = list(bars)
    for row in free:
        below = all_trees(sheet, [other for other in free if other != row], bars)
        told += [("row", row) + nodes for nodes in itertools.product(below, repeat=len(sheet[row]))]
    return told


class LetBy(unittest.TestCase, Refusals):
    def test_let_by(self):
        self.assertEqual(lets_cases(HEAP, SHEET, TREE), 5)
        self.assertEqual(lets_cases(thing=TREE, sheet=SHEET, heap=HEAP), 5)
        self.assertIs(type(lets_cases(HEAP, SHEET, TREE)), int)

    def test_whoever_wrote_it(self):
        for tree, bars in ((("row", 4, ("row", 0, BAR_RED, BAR_BLUE), BAR_PLATE), 3), (("row", 4, BAR_BLUE, BAR_PLATE), 2),
                           (("row", 2, BAR_RED, ("row", 0, BAR_RED, BAR_BLUE), BAR_PLATE), 4),
                           (("row", 0, ("bar", "brick", None), ("bar", "brick", ("blue", "red", "x"))), 2)):
            self.assertEqual(lets_cases(HEAP, SHEET, tree), bars, tree)

    def test_rows_of_one_way_are_taken_from_the_beginning_on(self):
        sheet = (((RED,), (BLUE,)), ((RED, RED),))
        self.assertEqual(lets_cases(HEAP, sheet, BAR_RED), 1)
        self.assert_no_paper("bar", 0, lets_cases, HEAP, SHEET, BAR_RED)
        self.assertEqual(lets_cases(HEAP, (((RED,),), ((RED,),)), BAR_RED), 1)

    def test_a_way_is_taken_below_its_node_alone(self):
        sheet = (((RED, RED), ()), ((BLUE,), (ANY,)))
        self.assertEqual(lets_cases(HEAP, sheet, ("row", 0, BAR_RED, ("row", 1, BAR_BLUE, BAR_PLATE))), 3)
        self.assert_no_paper("bar", 2, lets_cases, HEAP, sheet, ("row", 0, BAR_RED, BAR_RED))
        self.assert_no_paper("bar", 3, lets_cases, HEAP, sheet, ("row", 0, BAR_RED, ("row", 1, BAR_PLATE, BAR_PLATE)))
        self.assert_no_paper("bar", 4, lets_cases, HEAP, sheet, ("row", 0, BAR_RED, ("row", 1, BAR_BLUE, BAR_RED)))

    def test_a_plain_sheet(self):
        sheet = (((RED, RED),), ((),))
        self.assertEqual(lets_cases(HEAP, sheet, BAR_RED), 1)
        self.assertEqual(lets_cases(HEAP, sheet, ("bar", "brick", None)), 1)
        self.assert_no_paper("bar", 0, lets_cases, HEAP, sheet, BAR_PLATE)
        for row in (0, 1, 2, -1):
            self.assert_no_paper("row", 0, lets_cases, HEAP, sheet, ("row", row, BAR_RED))

    def test_the_sheet_of_none(self):
        for heap in (HEAP, Heap()):
            self.assert_no_paper("bar", 0, lets_cases, heap, (), BAR_RED)
            self.assert_no_paper("row", 0, lets_cases, heap, (), ("row", 0))
            self.assert_no_paper("shape", 0, lets_cases, heap, (), ())

    def test_sixty_four_choices(self):
        sheet = (((RED,), (BLUE,)),) * 6
        heap = Heap((("brick", "blue", 2), ("brick", "red", 3)))
        tree = ("bar", "brick", None)
        for row in range(6):
            tree = ("row", row, tree, tree)
        self.assertEqual(lets_cases(heap, sheet, tree), 64)
        self.assert_no_paper("bar", 6, lets_cases, heap.plus(HEAP), sheet, tree)
        self.assert_no_paper("row", 5, lets_cases, heap, sheet[:-1], ("row", 0) + 2 * (tree[2],))

    def test_large_counts(self):
        sheet = (((("a", ("r",), LARGEST),), (("a", (), LARGEST + 1),)), ((("a", ("s",), LARGEST),),))
        tree = ("row", 0, ("bar", "a", ("r",)), ("bar", "a", None))
        heap = Heap((("a", "r", LARGEST - 1), ("a", "s", LARGEST + 1)))
        self.assertEqual(lets_cases(heap, sheet, tree), 2)
        self.assert_no_paper("bar", 2, lets_cases, heap.plus(Heap((("a", "t", 1),))), sheet, tree)
        self.assert_no_paper("bar", 1, lets_cases, heap.plus(Heap((("a", "r", 1),))), sheet, tree)


class Refused(unittest.TestCase, Refusals):
    def refused_everywhere(self, word, wrongs, kinds):
        """That each thing that is made of a NODE of a kind is refused with the word and the number of the NODE."""
        for number, (path, node) in enumerate(plain_nodes(TREE, FIRST)):
            if node[0] in kinds:
                for wrong in wrongs(node):
                    self.assert_no_paper(word, number, lets_cases, HEAP, SHEET, with_node(TREE, path, wrong))

    def test_shape(self):
        def wrongs(node):
            told = list(NO_TUPLES) + [(), (node[0],), ("row",), ("bar",), list(node), (node,), node[1:], deep(20, 1),
                                      deep(20, 1, True), ("bar", "brick"), ("bar", ("brick", ("red",)))]
            told += [BAR_RED + (1,), BAR_RED + (None,), ("bar", "brick", ("red",), ()), ("dealt", ((), ())), ("ro", 0)]
            told += [replaced(node, 0, wrong) for wrong in NO_TUPLES + ("BAR", "Row", " row", "bars", "count", 1, ())]
            return told
        self.refused_everywhere("shape", wrongs, ("row", "bar"))

    def test_row(self):
        places = NO_NUMBERS + (1, 3, 5, 6, -1, -2, -5, 10 ** 199, -10 ** 199, [0], (2,))
        self.refused_everywhere("row", lambda node: [replaced(node, 1, wrong) for wrong in places], ("row",))
        self.refused_everywhere("row", lambda node: [("row", wrong) for wrong in places], ("row", "bar"))

    def test_a_row_that_is_taken_already(self):
        for tree, number in ((("row", 0, ("row", 0, BAR_RED, BAR_RED), BAR_RED), 1),
                             (("row", 0, BAR_RED, ("row", 0, BAR_RED, BAR_BLUE)), 2),
                             (with_node(TREE, (3, 3), ("row", 4, BAR_RED, BAR_RED)), 4),
                             (with_node(TREE, (3, 3), ("row", 0, BAR_RED, BAR_RED)), 4)):
            self.assert_no_paper("row", number, lets_cases, HEAP, SHEET, tree)

    def test_true_is_no_one(self):
        sheet = (((RED, RED),), ((RED,), (BLUE,)), ((RED,), (BLUE,)))
        tree = ("row", 1, BAR_RED, ("row", 2, BAR_RED, BAR_BLUE))
        self.assertEqual(lets_cases(HEAP, sheet, tree), 3)
        self.assert_no_paper("row", 0, lets_cases, HEAP, sheet, replaced(tree, 1, True))
        self.assert_no_paper("row", 0, lets_cases, HEAP, SHEET, replaced(TREE, 1, False))

    def test_cases(self):
        self.refused_everywhere("cases", lambda node: [node[:-1], node[:2], node + (BAR_RED,), node + ((),), node + node],
                                ("row",))

    def test_bar(self):
        def wrongs(node):
            told = [("bar", wrong, node[2]) for wrong in NO_WORDS]
            told += [("bar", "brick", wrong) for wrong in NO_TUPLES + ((),) if wrong is not None]
            told += [("bar", "wheel", None), ("bar", "brick", ("red", "blue")), ("bar", "brick", ("blue", "blue")),
                     ("bar", "brick", ["red"]), ("bar", "brick", ("x",)), ("bar", "brick", ("red", 1)),
                     ("bar", "plate", ("x",)), ("bar", None, "brick"), ("bar", ("red",), "brick"),
                     ("bar", "brick", (True,)), ("bar", "brick", (["red"],)), ("bar", "brick", deep(15, "red"))]
            return told
        self.refused_everywhere("bar", wrongs, ("bar",))

    def test_a_bar_of_other_wants(self):
        for path, bar, number in (((2,), BAR_BLUE, 1), ((2,), BAR_PLATE, 1), ((3, 2), BAR_PLATE, 3), ((3, 2), BAR_RED, 3),
                                  ((3, 3, 3), BAR_RED, 6), ((3,), BAR_RED, 2), ((), BAR_RED, 0), ((), BAR_BLUE, 0)):
            self.assert_no_paper("bar", number, lets_cases, HEAP, SHEET, with_node(TREE, path, bar))

    def test_of_several_faults_the_first_node_and_its_first_word(self):
        for tree, word, number in ((("row", 9), "row", 0), (("row", True, 1, 2, 3), "row", 0), (("row", 0), "cases", 0),
                                   (("row", 0, 1), "cases", 0), (("row", 0, 1, 2, 3), "cases", 0),
                                   (("row", 0, 1, 2), "shape", 1), (("row", 0, BAR_RED, 2), "shape", 2),
                                   (("row", 0, BAR_BLUE, 2), "bar", 1), (["row", 9], "shape", 0),
                                   (("row", 0, ("row", 9), BAR_RED), "row", 1), (("bar", 1, 2, 3), "shape", 0),
                                   (("row", 0, ("row", 4, BAR_RED, 1), 1), "shape", 3),
                                   (("row", 0, ("row", 4, BAR_RED, BAR_RED), 1), "shape", 4),
                                   (("row", 0, ("row", 4, BAR_RED, BAR_RED), ("row", 4, 1, 1)), "shape", 5),
                                   (("row", 0, ("row", 4, BAR_BLUE, BAR_PLATE), ("row", 4, BAR_BLUE, ())), "shape", 6)):
            self.assert_no_paper(word, number, lets_cases, HEAP, SHEET, tree)
        paths = [path for path, node in plain_nodes(TREE, FIRST)]
        for one, other in itertools.combinations(range(len(paths)), 2):
            if paths[other][:len(paths[one])] != paths[one]:
                tree = with_node(with_node(TREE, paths[one], ()), paths[other], ())
                self.assert_no_paper("shape", one, lets_cases, HEAP, SHEET, tree)

    def test_trees_deep_within_one_another(self):
        tree = BAR_RED
        for level in range(5000):
            tree = ("row", 0, tree, BAR_RED)
        self.assert_no_paper("row", 1, lets_cases, HEAP, SHEET, tree)
        self.assert_no_paper("shape", 0, lets_cases, HEAP, SHEET, deep(5000, BAR_RED))
        self.assert_no_paper("shape", 2, lets_cases, HEAP, SHEET, ("row", 0, BAR_RED, deep(5000, BAR_RED)))
        self.assert_no_paper("bar", 2, lets_cases, HEAP, SHEET, ("row", 0, BAR_RED, ("bar", "brick", deep(5000, "red"))))

    def test_taken_by_its_families_alone(self):
        for thing in ((), ("row", 1), ("row", 0), BAR_PLATE, with_node(TREE, (3, 3, 4), ())):
            self.assert_families(NoPaper, lambda: lets_cases(HEAP, SHEET, thing))

    def test_nothing_handed_in_is_changed(self):
        heap = Heap(HEAP.rows())
        for thing in (list(TREE), ("row", 0, BAR_RED, list(TREE[3])), ("row", 0, BAR_RED, ("bar", "brick", ["red"])),
                      ["bar", ["brick"]], ("row", [0], []), ("row", 0, BAR_RED, ("row", 4, [1], [2]))):
            kept = copy.deepcopy(thing)
            for again in range(2):
                with self.assertRaises(NoPaper):
                    lets_cases(heap, SHEET, thing)
            self.assertEqual(thing, kept)
        self.assertEqual(heap, HEAP)
        self.assertEqual(lets_cases(heap, SHEET, TREE), 5)


class Wholly(unittest.TestCase):
    def test_some_tree_is_let_by_just_where_there_is_no_dealing(self):
        ones = (("a", ("r",), 1),), (("a", ("s",), 1), ("a", (), 1)), (("a", ("r", "s"), 2),), ()
        sheets = [(row, other) for row, other in itertools.combinations_with_replacement(
            [ways for ways in itertools.combinations(ones, 2)], 2)] + [(ones[:2], ones[2:3], ones[:1])]
        bars = [("bar", "a", some) for some in subsets(("r", "s"))[1:] + [None]]
        seen = {True: 0, False: 0}
        for sheet, heap in itertools.product(sheets, small_heaps(("a",), ("r", "s"), 2)):
            free = [row for row in range(len(sheet)) if len(sheet[row]) > 1]
            built = builds(heap, sheet)
            self.assertIs(any(self.is_let_by(heap, sheet, tree) for tree in all_trees(sheet, free, bars)), not built)
            seen[built] += 1
        self.assertTrue(seen[True] > 20 and seen[False] > 20)

    def is_let_by(self, heap, sheet, tree):
        """Whether a tree of right shape is let by, with as many bars as it has."""
        try:
            told = lets_cases(heap, sheet, tree)
        except NoPaper as refusal:
            self.assertEqual(refusal.word, "bar")
            self.assertEqual(plain_nodes(tree, FIRST)[refusal.at][1][0], "bar")
            return False
        self.assertEqual(told, sum(node[0] == "bar" for path, node in plain_nodes(tree, FIRST)))
        return True

    def test_what_build_tells_is_let_by_and_by_less_than_that_nothing(self):
        for chance in chances(150):
            heap, sheet = Heap(some_rows(chance)), some_sheet(chance, rows=3, ways=3, wants=2)
            word, tree = build(heap, sheet)
            if word == "cases":
                nodes = plain_nodes(tree, FIRST)
                self.assertEqual(lets_cases(heap, sheet, tree), sum(node[0] == "bar" for path, node in nodes))
                for number, (path, node) in enumerate(nodes):
                    with self.assertRaises(NoPaper) as caught:
                        lets_cases(heap, sheet, with_node(tree, path, list(node)))
                    self.assertEqual((caught.exception.word, caught.exception.at), ("shape", number))


if __name__ == "__main__":
    unittest.main()
