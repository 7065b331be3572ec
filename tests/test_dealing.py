"""Point 24: a GIVEN that the HEAP SERVES, or a BAR, just one of both."""

import unittest

from partkits.barchecker import lets_bar
from partkits.dealing import deal
from partkits.dealings import is_dealing, is_given, serves
from partkits.errors import NoPaper
from partkits.heaps import Heap
from tests.paper_support import Refusals, all_givens, plain_serves, small_heaps, small_wants
from tests.support import LARGEST, all_just_tuples, chances, counted, made_odd, shares_a_tuple, some_rows, some_want

HEAP = Heap((("brick", "blue", 2), ("brick", "red", 3), ("plate", "lime", 1)))
WANTS = (("brick", ("blue", "red"), 2), ("brick", ("red",), 2), ("plate", (), 1), ("brick", (), 1))
FORTY_SHADES = tuple(a + b for a in "abcde" for b in "stuvwxyz")


def around(many):
    """48 WANTS of six SHADES in a ring of forty, each of many, and just the HEAP for it: a SHADE a WANT on average."""
    wants = tuple(("x", tuple(sorted(FORTY_SHADES[(5 * at + step) % 40] for step in range(6))), many)
                  for at in range(48))
    counts = {}
    for at in range(48):
        shade = FORTY_SHADES[(5 * at + at % 6) % 40]
        counts[shade] = counts.get(shade, 0) + many
    return wants, tuple(("x", shade, counts[shade]) for shade in sorted(counts))


class Dealing(unittest.TestCase, Refusals):
    def dealt(self, heap, wants):
        """Looks at what is told closely; True where it is a GIVEN."""
        told = deal(heap, wants)
        self.assertIs(type(told), tuple)
        self.assertEqual(len(told), 2)
        self.assertIn(told[0], ("dealt", "bar"))
        self.assertTrue(all_just_tuples(told))
        if told[0] == "bar":
            self.assertIs(lets_bar(heap, wants, told[1]), True)
            return False
        self.assertIs(is_given(wants, told[1]), True)
        self.assertIs(serves(heap, wants, told[1]), True)
        self.assertIs(plain_serves(counted(heap.rows()), wants, told[1]), True)
        return True

    def test_just_so(self):
        self.assertTrue(self.dealt(HEAP, WANTS))
        self.assertTrue(self.dealt(HEAP.plus(Heap((("brick", "red", 1), ("tile", "red", 1)))), WANTS))
        self.assertEqual(deal(wants=WANTS, heap=HEAP)[0], "dealt")

    def test_one_part_fewer(self):
        for form, shade, many in HEAP.rows():
            self.assertFalse(self.dealt(HEAP.less(Heap(((form, shade, 1),))), WANTS))

    def test_only_one_given_fits(self):
        heap = Heap((("a", "r", 1), ("a", "s", 2), ("a", "t", 3)))
        wants = (("a", (), 2), ("a", ("r", "s", "t"), 1), ("a", ("r", "s"), 2), ("a", ("r",), 1))
        self.assertEqual(deal(heap, wants), ("dealt", ((("t", 2),), (("t", 1),), (("s", 2),), (("r", 1),))))

    def test_handed_on_by_several(self):
        shades = ("a", "b", "c", "d", "e", "f")
        links = tuple(("x", shades[at:at + 2], 1) for at in range(5))
        for wants in (links + (("x", ("a",), 1),), (("x", ("a",), 1),) + links, links[::-1] + (("x", ("a",), 1),),
                      links[::2] + links[1::2] + (("x", ("f",), 1),)):
            self.assertTrue(self.dealt(Heap(tuple(("x", shade, 1) for shade in shades)), wants))
            for shade in shades:
                rows = tuple(("x", other, 1) for other in shades if other != shade)
                self.assertFalse(self.dealt(Heap(rows), wants))
                self.assertFalse(self.dealt(Heap(rows + (("x", "z", 9), ("y", shade, 9))), wants))

    def test_bars_that_are_the_only_ones(self):
        heap = Heap((("a", "r", 1), ("a", "s", 5)))
        self.assertEqual(deal(heap, (("a", ("r",), 2), ("a", (), 1))), ("bar", ("a", ("r",))))
        self.assertEqual(deal(heap, (("a", (), 7),)), ("bar", ("a", None)))
        self.assertEqual(deal(heap, (("a", ("r",), 1), ("a", (), 6))), ("bar", ("a", None)))
        self.assertEqual(deal(heap, (("b", (), 1),)), ("bar", ("b", None)))

    def test_no_wants_and_a_heap_of_none(self):
        self.assertEqual(deal(Heap(), ()), ("dealt", ()))
        self.assertEqual(deal(HEAP, ()), ("dealt", ()))
        self.assertFalse(self.dealt(Heap(), WANTS))
        self.assertEqual(deal(Heap(), (("a", (), 1),)), ("bar", ("a", None)))

    def test_a_form_or_a_shade_that_is_not_there(self):
        self.assertFalse(self.dealt(HEAP, (("tile", ("red",), 1),)))
        self.assertFalse(self.dealt(HEAP, (("brick", ("green",), 1),)))
        self.assertFalse(self.dealt(HEAP, WANTS + (("brick", ("green", "lime"), 1),)))
        self.assertTrue(self.dealt(HEAP, (("brick", ("blue", "green"), 2), ("brick", ("green", "red"), 3))))

    def test_wants_of_like_form_and_shades(self):
        wants = (("brick", ("blue", "red"), 1),) * 5
        self.assertTrue(self.dealt(HEAP, wants))
        self.assertFalse(self.dealt(HEAP, wants + wants[:1]))

    def test_any_beside_some(self):
        for order in (WANTS, WANTS[::-1], WANTS[2:] + WANTS[:2]):
            self.assertTrue(self.dealt(HEAP, order))
        heap = Heap((("a", "r", 2), ("a", "s", 1)))
        for wants in ((("a", (), 2), ("a", ("s",), 1)), (("a", (), 1), ("a", ("r",), 2))):
            self.assertTrue(self.dealt(heap, wants))
            self.assertFalse(self.dealt(heap, wants + (("a", (), 1),)))
        self.assertFalse(self.dealt(heap, (("a", (), 1), ("a", ("s",), 2))))

    def test_large_counts(self):
        for many in (LARGEST, LARGEST - 1, 1):
            wants, rows = around(many)
            self.assertEqual((len(wants), sum(row[2] for row in rows)), (48, 48 * many))
            self.assertTrue(self.dealt(Heap(rows), wants))
            for shade in (rows[0][1], rows[-1][1]):
                fewer = Heap(rows).less(Heap((("x", shade, 1),)))
                self.assertFalse(self.dealt(fewer, wants))
                self.assertFalse(self.dealt(fewer.plus(Heap((("y", shade, LARGEST), ("x", "zz", LARGEST)))), wants))

    def test_forty_parts_and_sums_beyond(self):
        heap = Heap(tuple(("x", shade, LARGEST) for shade in FORTY_SHADES))
        wants = (("x", (), LARGEST),) * 34 + tuple(("x", FORTY_SHADES[at:at + 6], LARGEST) for at in range(6))
        self.assertTrue(self.dealt(heap, wants))
        self.assertFalse(self.dealt(heap, wants + (("x", (), 1),)))
        self.assertTrue(self.dealt(heap, tuple(("x", (shade,), LARGEST) for shade in FORTY_SHADES)))
        self.assertFalse(self.dealt(heap, (("x", FORTY_SHADES[:2], LARGEST),) * 2 + (("x", FORTY_SHADES[:1], 1),)))

    def test_large_ones_made_of_a_given(self):
        for chance in chances(40):
            counts, wants = {}, []
            for at in range(48):
                form = chance.choice(("x", "y"))
                shades = tuple(sorted(chance.sample(FORTY_SHADES[:20], chance.choice((0, 1, 2, 6)))))
                gift = {shade: chance.randint(1, LARGEST // 10) for shade in (shades or FORTY_SHADES[:2])}
                wants.append((form, shades, sum(gift.values())))
                for shade in gift:
                    counts[(form, shade)] = counts.get((form, shade), 0) + gift[shade]
            heap = Heap(tuple(part + (many,) for part, many in counts.items()))
            self.assertTrue(self.dealt(heap, tuple(wants)))
            form, shade = chance.choice(sorted(counts))
            self.assertFalse(self.dealt(heap.less(Heap(((form, shade, 1),))), tuple(wants)))

    def test_dealt_just_where_some_given_is_served(self):
        for shades, most, manys, size in ((("r", "s"), 3, (1, 2), 3), (("r", "s", "t"), 2, (1,), 3)):
            seen = {True: 0, False: 0}
            cases = small_wants(("a",), shades, manys, size)
            for heap in small_heaps(("a",), shades, most):
                counts = counted(heap.rows())
                for wants in cases:
                    served = any(plain_serves(counts, wants, given) for given in all_givens(wants, shades))
                    self.assertIs(self.dealt(heap, wants), served, (heap, wants))
                    seen[served] += 1
            self.assertTrue(seen[True] and seen[False])

    def test_dealt_just_where_some_given_is_served_of_several_forms(self):
        seen = {True: 0, False: 0}
        for chance in chances(400):
            heap = Heap(some_rows(chance, most=8))
            wants = tuple(some_want(chance) for at in range(chance.randint(1, 4)))
            served = any(plain_serves(counted(heap.rows()), wants, given)
                         for given in all_givens(wants, ("blue", "re", "red")))
            self.assertIs(self.dealt(heap, wants), served)
            seen[served] += 1
        self.assertTrue(seen[True] and seen[False])

    def test_told_is_new_and_nothing_is_changed(self):
        for wants in (WANTS, made_odd(WANTS), WANTS + (("brick", ("red",), 2),), WANTS + (("brick", (), 2),)):
            heap = Heap(HEAP.rows())
            one, other = deal(heap, wants), deal(heap, wants)
            self.assertEqual(one[0], other[0])
            self.assertTrue(all_just_tuples(one))
            self.assertFalse(shares_a_tuple(one, other))
            self.assertFalse(shares_a_tuple(one, wants))
            self.assertEqual(heap, HEAP)

    def test_handed_in_again(self):
        given = deal(HEAP, WANTS)[1]
        self.assertIs(is_dealing(HEAP, ((WANTS,),), ((0,), given)), True)
        bar = deal(Heap(), WANTS)[1]
        self.assertIs(is_given(WANTS, bar), False)
        self.assertIs(is_dealing(HEAP, ((WANTS,),), bar), False)
        self.assert_no_paper("more", -1, lets_bar, HEAP, WANTS, bar)
        with self.assertRaises(NoPaper):
            lets_bar(HEAP, WANTS, given)


if __name__ == "__main__":
    unittest.main()
