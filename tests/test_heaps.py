"""Points 11, 12 and 13: HEAPS."""

import itertools
import unittest

from partkits.errors import HeapError, KitError, NoParts
from partkits.heaps import Heap
from tests.support import LARGEST, all_just_tuples, chances, counted, made_odd, shares_a_tuple, some_rows

ROWS = (("plate", "blue", 12), ("brick", "red", 1), ("brick", "blue", 5), ("brick", "red", 2))
RISING = (("brick", "blue", 5), ("brick", "red", 3), ("plate", "blue", 12))
LIKE_BEGINNINGS = (("ab", "a", 1), ("a", "bc", 2), ("abc", "a", 3), ("a", "b", 4), ("ab", "ab", 5), ("a", "bcd", 6))
FORTY = tuple(("f" + letter, "s" + tint, LARGEST) for letter in "abcdefgh" for tint in "vwxyz")


class Made(unittest.TestCase):
    def test_of_none(self):
        for heap in (Heap(), Heap(None), Heap(()), Heap(rows=None), Heap(rows=())):
            self.assertEqual(heap.rows(), ())
            self.assertEqual(heap.forms(), ())
            self.assertEqual(heap.many("brick"), 0)
            self.assertEqual(heap.many("brick", "red"), 0)

    def test_rows_rise_and_have_each_part_once(self):
        for rows in itertools.permutations(ROWS):
            self.assertEqual(Heap(rows).rows(), RISING)
            self.assertEqual(Heap(rows=rows).rows(), RISING)

    def test_words_of_which_one_is_the_beginning_of_another(self):
        told = Heap(LIKE_BEGINNINGS).rows()
        self.assertEqual(told, (("a", "b", 4), ("a", "bc", 2), ("a", "bcd", 6), ("ab", "a", 1), ("ab", "ab", 5),
                                ("abc", "a", 3)))
        self.assertEqual(Heap(LIKE_BEGINNINGS).forms(), ("a", "ab", "abc"))

    def test_rows_are_not_sorted_by_their_manys(self):
        self.assertEqual(Heap((("b", "a", 1), ("a", "b", 2), ("a", "a", 3))).rows(),
                         (("a", "a", 3), ("a", "b", 2), ("b", "a", 1)))

    def test_many(self):
        heap = Heap(ROWS)
        self.assertEqual([heap.many("brick", "red"), heap.many("brick", "blue"), heap.many("plate", "blue")],
                         [3, 5, 12])
        self.assertEqual([heap.many("brick"), heap.many("plate"), heap.many("tile")], [8, 12, 0])
        self.assertEqual([heap.many("brick", None), heap.many("plate", shade=None)], [8, 12])
        self.assertEqual([heap.many("plate", "red"), heap.many("tile", "red"), heap.many("red", "brick")], [0, 0, 0])
        self.assertEqual([heap.many("bric"), heap.many("bricks"), heap.many("brick", "re")], [0, 0, 0])
        self.assertEqual(heap.many(shade="red", form="brick"), 3)

    def test_forms(self):
        self.assertEqual(Heap(ROWS).forms(), ("brick", "plate"))
        self.assertEqual(Heap((("z", "red", 1), ("a", "red", 1), ("z", "blue", 1))).forms(), ("a", "z"))

    def test_against_the_plain_telling(self):
        for chance in chances(200):
            rows = some_rows(chance)
            counts = counted(rows)
            heap = Heap(rows)
            self.assertEqual(heap.rows(), tuple(sorted((f, s, many) for (f, s), many in counts.items())))
            self.assertEqual(heap.forms(), tuple(sorted({f for f, s in counts})))
            for form in ("a", "ab", "b", "c"):
                self.assertEqual(heap.many(form), sum(counts[part] for part in counts if part[0] == form))
                for shade in ("red", "re", "blue"):
                    self.assertEqual(heap.many(form, shade), counts.get((form, shade), 0))

    def test_bounds(self):
        heap = Heap(FORTY + FORTY[::-1])
        self.assertEqual(len(heap), 40)
        self.assertEqual(heap.rows(), tuple((f, s, 2 * LARGEST) for f, s, many in sorted(FORTY)))
        self.assertEqual(heap.many("fa"), 10 * LARGEST)
        self.assertEqual(heap.many("fh", "sz"), 2 * LARGEST)
        self.assertEqual(Heap((("a", "b", LARGEST),) * 1000).rows(), (("a", "b", 10 ** 12),))

    def test_words_of_one_and_of_eight_letters(self):
        rows = (("a", "abcdefgh", 1), ("abcdefgh", "a", 2))
        self.assertEqual(Heap(rows[::-1]).rows(), rows)


class Never(unittest.TestCase):
    """A HEAP never changes, and what it tells is the asker's own."""

    def test_nothing_changes_it(self):
        heap, other = Heap(ROWS), Heap((("brick", "red", 1), ("tile", "red", 9)))
        heap.plus(other), heap.holds(other), heap.many("brick"), heap.forms(), heap.rows()
        heap == other, len(heap), bool(heap), str(heap), repr(heap)
        heap.less(Heap(RISING[:1]))
        with self.assertRaises(NoParts):
            heap.less(other)
        self.assertEqual(heap.rows(), RISING)
        self.assertEqual(other.rows(), (("brick", "red", 1), ("tile", "red", 9)))

    def test_told_is_new_and_just_tuples(self):
        for rows in (ROWS, RISING, made_odd(RISING)):
            heap = Heap(rows)
            one, other = heap.rows(), heap.rows()
            self.assertFalse(shares_a_tuple(one, other))
            self.assertFalse(shares_a_tuple(one, rows))
            self.assertTrue(all_just_tuples(one))
            self.assertIsNot(heap.forms(), heap.forms())
            self.assertIs(type(heap.forms()), tuple)

    def test_heaps_of_heaps_share_nothing_that_is_told(self):
        heap = Heap(RISING)
        kept = heap.rows()
        for other in (heap.plus(Heap()), heap.less(Heap()), Heap(heap.rows())):
            self.assertEqual(other.rows(), kept)
            self.assertFalse(shares_a_tuple(other.rows(), kept))

    def test_a_new_heap_each_time(self):
        heap = Heap(RISING)
        self.assertIsNot(heap.plus(Heap()), heap)
        self.assertIsNot(heap.less(Heap()), heap)


class Together(unittest.TestCase):
    def test_plus(self):
        told = Heap(ROWS).plus(Heap((("tile", "red", 1), ("brick", "red", 4))))
        self.assertIsInstance(told, Heap)
        self.assertEqual(told.rows(), (("brick", "blue", 5), ("brick", "red", 7), ("plate", "blue", 12),
                                       ("tile", "red", 1)))

    def test_plus_none_and_itself(self):
        heap = Heap(ROWS)
        self.assertEqual(heap.plus(Heap()).rows(), RISING)
        self.assertEqual(Heap().plus(heap).rows(), RISING)
        self.assertEqual(Heap().plus(Heap()).rows(), ())
        self.assertEqual(heap.plus(heap).rows(), tuple((f, s, 2 * many) for f, s, many in RISING))

    def test_less(self):
        told = Heap(ROWS).less(Heap((("brick", "red", 3), ("brick", "blue", 1))))
        self.assertIsInstance(told, Heap)
        self.assertEqual(told.rows(), (("brick", "blue", 4), ("plate", "blue", 12)))
        self.assertEqual(Heap(ROWS).less(Heap(ROWS)).rows(), ())
        self.assertEqual(Heap(ROWS).less(Heap()).rows(), RISING)
        self.assertEqual(Heap().less(Heap()).rows(), ())

    def test_less_refused(self):
        cases = (
            ((), (("brick", "red", 1),), (("brick", "red", 1),)),
            (ROWS, (("brick", "red", 4),), (("brick", "red", 1),)),
            (ROWS, (("brick", "red", 2), ("brick", "red", 2), ("tile", "red", 7), ("plate", "blue", 12)),
             (("brick", "red", 1), ("tile", "red", 7))),
            (ROWS, (("brick", "green", 1), ("brick", "blue", 5)), (("brick", "green", 1),)),
            ((("a", "b", LARGEST),), (("a", "b", LARGEST), ("a", "b", LARGEST)), (("a", "b", LARGEST),)),
        )
        for rows, others, lacking in cases:
            for refusal in (NoParts, HeapError, KitError, ValueError):
                with self.assertRaises(refusal) as caught:
                    Heap(rows).less(Heap(others))
                self.assertIs(type(caught.exception), NoParts)
                self.assertIsInstance(caught.exception.lacking, Heap)
                self.assertEqual(caught.exception.lacking.rows(), lacking)

    def test_holds(self):
        heap = Heap(ROWS)
        for rows in ((), ROWS, RISING[:1], (("brick", "red", 3),), (("plate", "blue", 11), ("brick", "blue", 5))):
            self.assertIs(heap.holds(Heap(rows)), True, rows)
        for rows in ((("brick", "red", 4),), (("tile", "red", 1),), RISING + (("brick", "red", 1),),
                     (("plate", "red", 1),)):
            self.assertIs(heap.holds(Heap(rows)), False, rows)
        self.assertIs(Heap().holds(Heap()), True)
        self.assertIs(Heap().holds(heap), False)

    def test_many_of_a_form_is_not_enough(self):
        self.assertIs(Heap((("a", "red", 9),)).holds(Heap((("a", "blue", 1),))), False)

    def test_by_name(self):
        heap, other = Heap(ROWS), Heap(RISING[:1])
        self.assertEqual(heap.plus(other=other).many("brick", "blue"), 10)
        self.assertEqual(heap.less(other=other).many("brick", "blue"), 0)
        self.assertIs(heap.holds(other=other), True)

    def test_against_the_plain_telling(self):
        parts = [(form, shade) for form in ("a", "ab", "b") for shade in ("red", "re", "blue")]
        for chance in chances(300):
            ones, others = some_rows(chance), some_rows(chance, most=3)
            mine, theirs = counted(ones), counted(others)
            one, other = Heap(ones), Heap(others)
            over = {part: mine.get(part, 0) - theirs.get(part, 0) for part in parts}
            self.assertEqual(one.plus(other), Heap(ones + others))
            self.assertIs(one.holds(other), all(many >= 0 for many in over.values()))
            if one.holds(other):
                self.assertEqual(one.less(other).rows(), tuple((*part, over[part]) for part in sorted(parts)
                                                               if over[part]))
            else:
                with self.assertRaises(NoParts) as caught:
                    one.less(other)
                self.assertEqual(caught.exception.lacking.rows(),
                                 tuple((*part, -over[part]) for part in sorted(parts) if over[part] < 0))

    def test_bounds(self):
        heap = Heap(FORTY)
        for at in range(5):
            heap = heap.plus(heap)
        self.assertEqual(heap.rows(), tuple((f, s, 32 * LARGEST) for f, s, many in sorted(FORTY)))
        self.assertIs(heap.holds(Heap(FORTY)), True)
        self.assertEqual(heap.less(Heap(FORTY)).many("fa", "sv"), 31 * LARGEST)


class Shown(unittest.TestCase):
    def test_equal(self):
        self.assertEqual([Heap(ROWS) == Heap(RISING), Heap() == Heap(()), Heap(ROWS) == Heap(ROWS[:3])],
                         [True, True, False])
        self.assertEqual([Heap(ROWS) != Heap(RISING), Heap() != Heap(()), Heap(ROWS) != Heap(ROWS[:3])],
                         [False, False, True])
        for other in ((("brick", "red", 2),), (("brick", "blue", 1),), (("plate", "red", 1),), (),
                      (("brick", "red", 1), ("brick", "blue", 1))):
            self.assertIs(Heap((("brick", "red", 1),)) == Heap(other), False)
            self.assertIs(Heap(other) == Heap((("brick", "red", 1),)), False)

    def test_equal_to_no_other_thing(self):
        for heap in (Heap(), Heap(RISING)):
            for thing in (None, True, False, 0, 1, 3, "", "-", str(heap), repr(heap), (), [], RISING, ROWS,
                          list(RISING), (heap,), [heap], NoParts(heap)):
                self.assertIs(heap == thing, False)
                self.assertIs(thing == heap, False)
                self.assertIs(heap != thing, True)

    def test_len_and_truth(self):
        for rows, many in (((), 0), (ROWS, 3), (RISING, 3), (RISING[:1], 1), (ROWS * 5, 3), (FORTY, 40)):
            self.assertEqual(len(Heap(rows)), many)
            self.assertIs(bool(Heap(rows)), many > 0)
            self.assertIs(not Heap(rows), many == 0)
        self.assertEqual(len(Heap((("brick", "red", LARGEST),))), 1)

    def test_str_and_repr(self):
        self.assertEqual(str(Heap((("plate", "blue", 12), ("brick", "red", 3)))), "brick/red:3 plate/blue:12")
        self.assertEqual(repr(Heap((("plate", "blue", 12), ("brick", "red", 3)))), "Heap(brick/red:3 plate/blue:12)")
        self.assertEqual(str(Heap()), "-")
        self.assertEqual(repr(Heap()), "Heap(-)")
        self.assertEqual(str(Heap((("a", "abcdefgh", LARGEST),) * 2)), "a/abcdefgh:2000000000")
        self.assertEqual(f"{Heap(ROWS)}", "brick/blue:5 brick/red:3 plate/blue:12")


if __name__ == "__main__":
    unittest.main()
