"""Points 35, 37 and 38: a DEALING of the HEAP to the SHEET, or a CASE TREE, just one of both."""

import copy
import itertools
import unittest

from partkits.casechecker import lets_cases
from partkits.cases import build
from partkits.dealing import deal
from partkits.dealings import is_dealing
from partkits.errors import NoPaper
from partkits.heaps import Heap
from partkits.sheets import choices, is_plain, joined, wants_of
from tests.support import (LARGEST, all_just_tuples, builds, chances, made_odd, shares_a_tuple, some_rows, some_sheet)

RED, BLUE, ANY = ("brick", ("red",), 1), ("brick", ("blue",), 1), ("plate", (), 1)
SHEET = (((RED, ANY), (BLUE,)), ((ANY,),), ((RED,), (BLUE, BLUE), (ANY,)))


def bars_in(tree):
    """How many NODES with "bar" a CASE TREE has."""
    return 1 if tree[0] == "bar" else sum(bars_in(below) for below in tree[2:])


class Build(unittest.TestCase):
    def dealt(self, heap, sheet):
        """Looks at what is told closely; True where it is a DEALING."""
        told = build(heap, sheet)
        self.assertIs(type(told), tuple)
        self.assertEqual(len(told), 2)
        self.assertTrue(all_just_tuples(told))
        if told[0] == "dealt":
            self.assertIs(is_dealing(heap, sheet, told[1]), True)
            return True
        self.assertEqual(told[0], "cases")
        self.assertEqual(lets_cases(heap, sheet, told[1]), bars_in(told[1]))
        self.assertIs(is_dealing(heap, sheet, told[1]), False)
        return False

    def test_by_one_choice_alone(self):
        parts = {RED: ("brick", "red", 1), BLUE: ("brick", "blue", 1), ANY: ("plate", "x", 1)}
        for choice in choices(SHEET):
            heap = Heap(tuple(parts[want] for want in wants_of(SHEET, choice)))
            self.assertTrue(self.dealt(heap, SHEET))
            for form, shade, many in heap.rows():
                fewer = heap.less(Heap(((form, shade, 1),)))
                self.assertIs(self.dealt(fewer, SHEET), builds(fewer, SHEET))
        heap = Heap((("brick", "blue", 3), ("plate", "x", 1)))
        self.assertEqual(build(heap, SHEET)[1][0], (1, 0, 1))
        self.assertEqual(build(sheet=SHEET, heap=heap), ("dealt", ((1, 0, 1), ((("blue", 1),), (("x", 1),),
                                                                               (("blue", 1),), (("blue", 1),)))))

    def test_the_sheet_of_none(self):
        for heap in (Heap(), Heap((("brick", "red", 1),))):
            self.assertEqual(build(heap, ()), ("dealt", ((), ())))
            self.assertEqual(build(heap, (((),),)), ("dealt", ((0,), ())))

    def test_a_way_that_wants_nothing(self):
        self.assertEqual(build(Heap(), (((RED,), ()),)), ("dealt", ((1,), ())))
        self.assertEqual(build(Heap(), (((RED,), (), (BLUE,)), ((), (ANY,)))), ("dealt", ((1, 0), ())))
        self.assertFalse(self.dealt(Heap(), (((RED,), ()), ((RED,),))))
        self.assertTrue(self.dealt(Heap((("brick", "red", 1),)), (((RED,), ()), ((RED,),))))

    def test_one_way_a_row_is_a_tree_of_one_node(self):
        sheet = (((RED, RED),), ((ANY,),), ((),))
        heap = Heap((("brick", "red", 1), ("plate", "x", 1)))
        self.assertEqual(build(heap, sheet), ("cases", ("bar", "brick", ("red",))))
        self.assertEqual(build(Heap((("brick", "red", 2),)), sheet), ("cases", ("bar", "plate", None)))
        self.assertTrue(self.dealt(Heap((("brick", "red", 2), ("plate", "x", 1))), sheet))

    def test_a_tree_of_cases(self):
        word, tree = build(Heap((("brick", "red", 1),)), (((RED,), (BLUE,)), ((RED,), (ANY,))))
        self.assertEqual(word, "cases")
        self.assertEqual(tree[0], "row")
        self.assertFalse(self.dealt(Heap((("brick", "red", 1),)), (((RED,), (BLUE,)), ((RED,), (ANY,)))))

    def test_rows_that_share_parts(self):
        sheet = (((RED,), (BLUE,)),) * 3
        for red, blue in itertools.product(range(4), repeat=2):
            rows = tuple(("brick", shade, many) for shade, many in (("red", red), ("blue", blue)) if many)
            self.assertIs(self.dealt(Heap(rows), sheet), red + blue >= 3)

    def test_sixty_four_choices(self):
        way = (RED, ("brick", ("red", "z"), 1), ANY, ("tile", ("a", "b", "c", "d", "e", "f"), 2), ("tile", (), 1))
        ways = (way + (("brick", ("blue",), 1),), way + (("brick", ("lime",), 1),))
        sheet = (ways,) * 6 + ((way,),) * 2
        self.assertEqual(len(choices(sheet)), 64)
        rows = (("brick", "red", 16), ("plate", "y", 8), ("tile", "a", 16), ("tile", "q", 8))
        for blue, lime in ((6, 0), (0, 6), (3, 3), (2, 4), (3, 2), (0, 5), (9, 9), (1, 1)):
            shades = tuple(("brick", shade, many) for shade, many in (("blue", blue), ("lime", lime)) if many)
            self.assertIs(self.dealt(Heap(rows + shades), sheet), blue + lime >= 6)
        fewer = Heap(rows + (("brick", "blue", 6),)).less(Heap((("tile", "a", 1),)))
        self.assertFalse(self.dealt(fewer, sheet))
        self.assertTrue(self.dealt(fewer.plus(Heap((("tile", "b", 1),))), sheet))

    def test_three_ways_and_more_rows(self):
        sheet = (((RED,), (BLUE,), (ANY,)),) * 3 + (((RED,),),) * 8 + (((BLUE,), ()),)
        heap = Heap((("brick", "red", 9), ("brick", "blue", 1)))
        self.assertFalse(self.dealt(heap, sheet))
        self.assertTrue(self.dealt(heap.plus(Heap((("plate", "x", 1),))), sheet))

    def test_large_counts(self):
        sheet = (((("a", ("r",), LARGEST),), (("a", ("s",), LARGEST),)), ((("a", (), LARGEST),),))
        self.assertTrue(self.dealt(Heap((("a", "r", LARGEST - 1), ("a", "s", LARGEST), ("a", "t", 1))), sheet))
        self.assertFalse(self.dealt(Heap((("a", "r", LARGEST - 1), ("a", "s", LARGEST))), sheet))
        self.assertFalse(self.dealt(Heap((("a", "r", LARGEST - 1), ("a", "t", 3 * LARGEST))), sheet))
        forty = Heap(tuple(("a", x + y, LARGEST) for x in "abcde" for y in "stuvwxyz"))
        self.assertFalse(self.dealt(forty, sheet))
        self.assertTrue(self.dealt(forty.plus(Heap((("a", "s", LARGEST),))), sheet))

    def test_dealt_just_where_some_choice_is(self):
        seen = {True: 0, False: 0}
        for chance in chances(400):
            heap, sheet = Heap(some_rows(chance, most=8)), some_sheet(chance, rows=3, ways=3, wants=2)
            built = builds(heap, sheet)
            self.assertIs(self.dealt(heap, sheet), built)
            self.assertIs(built, any(deal(heap, wants_of(sheet, choice))[0] == "dealt" for choice in choices(sheet)))
            seen[built] += 1
        self.assertTrue(seen[True] > 50 and seen[False] > 50)

    def test_rows_in_another_order_and_joined(self):
        for chance in chances(60):
            heap, sheet = Heap(some_rows(chance, most=8)), some_sheet(chance)
            told = build(heap, sheet)[0]
            for turned in itertools.permutations(sheet):
                self.assertEqual(build(heap, turned)[0], told)
            self.assertEqual(build(heap, joined(sheet, ()))[0], told)
            self.assertEqual(build(heap, joined(sheet, (((RED,), ()),)))[0], told)

    def test_a_plain_sheet_is_dealt_as_its_wants(self):
        for chance in chances(100):
            heap, sheet = Heap(some_rows(chance, most=8)), some_sheet(chance, ways=1)
            self.assertTrue(is_plain(sheet))
            word, told = build(heap, sheet)
            self.assertEqual(word == "dealt", deal(heap, wants_of(sheet))[0] == "dealt")
            if word == "cases":
                self.assertEqual(told[0], "bar")

    def test_told_is_new_and_nothing_is_changed(self):
        rows = (("brick", "blue", 3), ("plate", "x", 1))
        for sheet, heap in itertools.product((SHEET, made_odd(SHEET), (((RED,),),)), (Heap(rows), Heap(), Heap(rows[:1]))):
            kept, before = copy.deepcopy(sheet), heap.rows()
            one, other = build(heap, sheet), build(heap, sheet)
            self.assertTrue(all_just_tuples(one))
            self.assertFalse(shares_a_tuple(one, other))
            self.assertFalse(shares_a_tuple(one, sheet))
            self.assertEqual((sheet, heap.rows()), (kept, before))

    def test_handed_in_again(self):
        heap = Heap((("brick", "blue", 3), ("plate", "x", 1)))
        word, (choice, given) = build(heap, SHEET)
        self.assertEqual(wants_of(SHEET, choice)[0], BLUE)
        self.assertIs(is_dealing(heap.plus(Heap((("z", "z", 1),))), SHEET, (choice, given)), True)
        tree = build(Heap(), SHEET)[1]
        with self.assertRaises(NoPaper):
            lets_cases(heap, SHEET, tree)
        with self.assertRaises(NoPaper):
            lets_cases(Heap(), SHEET, (choice, given))


if __name__ == "__main__":
    unittest.main()
