"""Points 51 to 53: FEWEST PAPERS, their trees gone through entry by entry."""

import copy
import itertools
import unittest

from partkits.dealings import is_dealing
from partkits.errors import NoKits
from partkits.heaps import Heap
from partkits.kitpapers import fewest_paper
from partkits.kitting import fewest
from tests.kit_support import (CAR, HEAP, KITS, SPARE, WALL, WANTS, TreeWalk, all_many, all_places, fewest_tried, heap_of,
                               is_never, makes, plain_of, small_kits, some_kits, with_so_many)
from tests.paper_support import Refusals, small_wants
from tests.support import LARGEST, all_just_tuples, chances, made_odd, shares_a_tuple
from tests.tree_support import node_words, plain_nodes

FIRST = {"more": 3}
TWOS = (heap_of(r=2), heap_of(s=2), heap_of(t=2), heap_of(u=2))


class Told(unittest.TestCase, Refusals, TreeWalk):
    def told(self, heap, kits, wants):
        """The entries of the tree that is told, all of the paper looked at closely."""
        sheet = plain_of(*wants)
        paper = fewest_paper(heap, kits, sheet)
        self.assertIs(type(paper), tuple)
        self.assertTrue(all_just_tuples(paper))
        many, dealing, tree = paper
        self.assertEqual(len(many), len(kits))
        self.assertTrue(all(type(own) is int and own >= 0 for own in many))
        self.assertIs(is_dealing(with_so_many(heap, kits, many), sheet, dealing), True)
        self.assertEqual(sum(many), sum(fewest(heap, kits, sheet)))
        return self.walk(heap, kits, wants, sum(many), tree)

    def never(self, heap, kits, wants):
        """The paper with which it is refused."""
        with self.assertRaises(NoKits) as caught:
            fewest_paper(heap, kits, plain_of(*wants))
        self.assertTrue(is_never(heap, kits, wants, caught.exception.paper))
        return caught.exception.paper

    def test_ordinary(self):
        self.told(HEAP, KITS, WANTS)
        self.told(HEAP, KITS[::-1], WANTS)
        paper = fewest_paper(sheet=plain_of(*WANTS), kits=KITS, heap=HEAP)
        self.assertEqual(paper[0], (2, 2, 0))
        self.assertEqual(paper[1][0], (0,) * len(WANTS))
        self.told(Heap(), KITS, (("brick", (), 18),))
        self.told(Heap(), KITS, (("tile", ("x", "y"), 11), ("plate", (), 2)))
        paper = fewest_paper(HEAP, KITS, ((WANTS[:2],), ((),), (WANTS[2:],)))
        self.assertEqual((paper[0], paper[1][0]), ((2, 2, 0), (0, 0, 0)))
        self.walk(HEAP, KITS, WANTS, 4, paper[2])

    def test_a_leaf_of_no_weights(self):
        for kits in ((), KITS, (Heap(),), (Heap(), CAR)):
            many, dealing, tree = fewest_paper(Heap(), kits, ())
            self.assertEqual((many, dealing), ((0,) * len(kits), ((), ())))
            self.assertEqual((tree[0], tree[2]), ("leaf", ()))
            self.assertEqual(self.told(Heap(), kits, ()), [("leaf", (0,) * len(kits), (-1,) * len(kits))])
            tree = fewest_paper(HEAP, kits, plain_of(("brick", ("blue",), 1), ("wheel", (), 2)))[2]
            self.assertEqual((tree[0], tree[2]), ("leaf", ()))
            self.told(HEAP, kits, (("brick", ("blue",), 1), ("wheel", (), 2)))

    def test_one_leaf(self):
        self.assertEqual(self.told(Heap(), (WALL,), (("brick", ("red",), 7),)), [("leaf", (0,), (2,))])
        self.assertEqual(self.told(Heap(), (WALL, SPARE), (("brick", (), 7),)), [("leaf", (0, 0), (1, 1))])
        self.assertEqual(self.told(Heap(), (Heap(), WALL), (("brick", (), 1),)), [("leaf", (0, 0), (0, 0))])

    def test_weights_at_several_places(self):
        kits = (heap_of(r=3, s=1), heap_of(r=1, s=3))
        wants = (("a", ("r",), 8), ("a", ("s",), 8))
        self.assertEqual(self.told(Heap(), kits, wants), [("leaf", (0, 0), (3, 3))])

    def test_nodes_where_fractions_would_do(self):
        for size in range(2, 5):
            wants = tuple(("a", (shade,), 3) for shade in "rstu"[:size])
            words = [word for word, leasts, mosts in self.told(Heap(), TWOS[:size], wants)]
            self.assertIn("more", words)
            self.assertEqual(words.count("leaf"), words.count("more") + 1)
        alike = TWOS[:1] * 2 + TWOS[1:2] * 2
        words = [word for word, leasts, mosts in self.told(Heap(), alike, (("a", ("r",), 7), ("a", ("s",), 7)))]
        self.assertGreater(words.count("more"), 3)

    def test_more_kits_and_deep_trees(self):
        alike = TWOS[:1] * 2 + TWOS[1:2] * 2
        wants = (("a", ("r",), 61), ("a", ("s",), 61))
        tree = fewest_paper(Heap(), alike, plain_of(*wants))[2]
        self.assertGreater(max(len(path) for path, node in plain_nodes(tree, FIRST)), 20)
        self.told(Heap(), alike, wants)
        self.told(Heap(), TWOS + (heap_of(r=1, s=1, t=1, u=1),), tuple(("a", (shade,), 5) for shade in "rstu"))

    def test_never(self):
        self.assertEqual(self.never(HEAP, KITS, (("tile", ("y",), 1),)), ("tile", ("y",)))
        self.assertEqual(self.never(HEAP, KITS, WANTS + (("door", (), 1),)), ("door", None))
        self.assertEqual(self.never(Heap(), (), (("a", ("r", "s"), 1),)), ("a", ("r", "s")))
        self.assertEqual(self.never(Heap(), (Heap(), Heap()), (("a", (), 1),)), ("a", None))
        self.assert_families(NoKits, lambda: fewest_paper(HEAP, KITS, plain_of(("tile", ("y",), 1))))

    def test_many_far_above(self):
        self.told(Heap(), (heap_of(r=1),), (("a", (), LARGEST),) * 48)
        self.told(heap_of(s=1), (heap_of(r=1), heap_of(r=1)), (("a", (), LARGEST),) * 48)
        for size in range(1, 5):
            self.told(Heap(), TWOS[:size], tuple(("a", (shade,), LARGEST - 1) for shade in "rstu"[:size]))
        self.told(Heap(), TWOS[:1] + TWOS[:3], tuple(("a", (shade,), LARGEST - 1) for shade in "rst"))
        kits = (heap_of(r=3, s=1, t=7), heap_of(r=1, s=13, u=5), heap_of(r=8, t=3, u=1), heap_of(s=11, t=1, u=3))
        self.told(Heap(), kits, tuple(("a", (shade,), LARGEST - 77 * at) for at, shade in enumerate("rstu")))
        paper = fewest_paper(Heap(), (heap_of(r=1),), plain_of(*[("a", (), LARGEST)] * 48))
        self.assertEqual(paper[:2], ((48 * LARGEST,), ((0,) * 48, ((("r", LARGEST),),) * 48)))

    def test_large_counts(self):
        kits = (heap_of(r=LARGEST, s=1), heap_of(r=1, s=LARGEST))
        for red, other in ((LARGEST, LARGEST), (LARGEST + 2, LARGEST), (2 * LARGEST, 2), (LARGEST, 1), (LARGEST, 2)):
            self.told(Heap(), kits, (("a", ("r",), red), ("a", ("s",), other)))
            self.told(heap_of(r=red - 1, s=other - 1), kits, (("a", ("r",), red), ("a", ("s",), other), ("a", (), 1)))

    def test_forty_parts(self):
        shades = [x + y for x in "abcde" for y in "stuvwxyz"]
        kits = tuple(heap_of(**{shade: 1 + at % 3 for at, shade in enumerate(shades) if at % 4 != k}) for k in range(4))
        wants = tuple(("a", tuple(shades[at % 40:][:1 + at % 6]), 9) for at in range(48))
        self.told(heap_of(**{shade: 2 for shade in shades}), kits, wants)
        self.told(Heap(), kits, wants + (("a", (), 500),))

    def test_small_cases_gone_through_wholly(self):
        seen = set()
        places = all_places(("a",), ("r", "s"))
        wants_tried = [wants for wants in small_wants(("a",), ("r", "s"), (1, 3), 2)]
        for kits, wants, heap in itertools.product(small_kits((0, 1, 2)), wants_tried, (Heap(), heap_of(r=1))):
            if any(is_never(heap, kits, wants, place) for place in places):
                self.never(heap, kits, wants)
            else:
                entries = self.told(heap, kits, wants)
                seen.add(len(entries))
        self.assertTrue({1, 3} <= seen)

    def test_none_fewer_by_any_paper(self):
        """Point 52: such ones as come to less fall into a leaf, and don't MAKE the SHEET."""
        for chance in chances(150):
            heap, kits, wants = some_kits(chance)
            try:
                entries = self.told(heap, kits, wants)
            except NoKits:
                continue
            size = sum(fewest(heap, kits, plain_of(*wants)))
            self.assertEqual(fewest_tried(heap, kits, wants, size), size)
            leaves = [(leasts, mosts) for word, leasts, mosts in entries if word == "leaf"]
            for total in range(size):
                for many in all_many(len(kits), total):
                    self.assertFalse(makes(heap, kits, many, wants))
                    within = [all(low <= own <= high for own, low, high in zip(many, *leaf)) for leaf in leaves]
                    self.assertEqual(within.count(True), 1)

    def test_many_kits_and_shades(self):
        seen = set()
        for chance in chances(120):
            shades = "rstu"[:chance.randint(2, 4)]
            kits = tuple(heap_of(**{shade: chance.randint(0, 3) for shade in shades})
                         for at in range(chance.randint(2, 4)))
            wants = tuple(("a", tuple(sorted(chance.sample(shades, chance.randint(0, 2)))), chance.randint(1, 6))
                          for at in range(chance.randint(2, 6)))
            try:
                seen.add(len(self.told(heap_of(r=chance.randint(0, 1)), kits, wants)))
            except NoKits:
                seen.add("never")
        self.assertTrue({"never", 1, 3} <= seen)

    def test_new_and_nothing_is_changed(self):
        kits = (Heap(CAR.rows()), Heap(WALL.rows()))
        odd = plain_of(("brick", ("blue",), 4), ("plate", (), 3))
        for sheet in (plain_of(*WANTS), made_odd(plain_of(*WANTS)), odd, ()):
            kept, heap = copy.deepcopy(sheet), Heap(HEAP.rows())
            one, other = fewest_paper(heap, kits, sheet), fewest_paper(heap, kits, sheet)
            self.assertFalse(shares_a_tuple(one, other))
            self.assertFalse(shares_a_tuple(one, sheet))
            self.assertTrue(all_just_tuples(one))
            self.assertEqual((sheet, heap, kits), (kept, HEAP, (CAR, WALL)))
        self.assertIn("leaf", node_words(fewest_paper(HEAP, kits, odd)[2], FIRST))


if __name__ == "__main__":
    unittest.main()
