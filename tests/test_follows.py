"""Point 20, as far as it speaks of HEAPS together and of SHEETS tidied and in another order."""

import itertools
import unittest

from partkits.errors import NoParts
from partkits.heaps import Heap
from partkits.sheets import joined, tidy
from tests.support import builds, chances, some_rows, some_sheet


class Heaps(unittest.TestCase):
    def test_together_in_whichever_order(self):
        for chance in chances(100):
            heaps = [Heap(some_rows(chance)) for at in range(3)]
            told = [one.plus(other).plus(third) for one, other, third in itertools.permutations(heaps)]
            told += [one.plus(other.plus(third)) for one, other, third in itertools.permutations(heaps)]
            for heap in told:
                self.assertEqual(heap, told[0])
                self.assertEqual(heap.rows(), told[0].rows())

    def test_put_to_and_taken_out(self):
        for chance in chances(100):
            heap, other = Heap(some_rows(chance)), Heap(some_rows(chance))
            self.assertEqual(heap.plus(other).less(other), heap)
            self.assertEqual(heap.plus(other).less(heap), other)
            self.assertEqual(heap.plus(other).less(other).rows(), heap.rows())

    def test_each_is_held_by_both_together(self):
        for chance in chances(100):
            heap, other = Heap(some_rows(chance)), Heap(some_rows(chance))
            self.assertIs(heap.plus(other).holds(heap), True)
            self.assertIs(heap.plus(other).holds(other), True)

    def test_what_lacks_is_just_what_has_to_come(self):
        for chance in chances(100):
            heap, other = Heap(some_rows(chance)), Heap(some_rows(chance))
            try:
                self.assertEqual(heap.less(other).plus(other), heap)
            except NoParts as refusal:
                self.assertIs(heap.plus(refusal.lacking).holds(other), True)
                for form, shade, many in refusal.lacking.rows():
                    fewer = refusal.lacking.less(Heap(((form, shade, 1),)))
                    self.assertIs(heap.plus(fewer).holds(other), False)


class Sheets(unittest.TestCase):
    def test_tidy_and_turned_ones_are_built_alike(self):
        built = []
        for chance in chances(300):
            heap, sheet = Heap(some_rows(chance)), some_sheet(chance)
            told = builds(heap, sheet)
            built.append(told)
            self.assertIs(builds(heap, tidy(sheet)), told)
            for turned in itertools.permutations(sheet):
                self.assertIs(builds(heap, turned), told)
                self.assertIs(builds(heap, tidy(turned)), told)
        self.assertIn(True, built)
        self.assertIn(False, built)

    def test_joined_either_way_are_built_alike(self):
        for chance in chances(100):
            heap = Heap(some_rows(chance, most=8))
            one, other = some_sheet(chance, rows=2), some_sheet(chance, rows=2)
            self.assertIs(builds(heap, joined(one, other)), builds(heap, joined(other, one)))


if __name__ == "__main__":
    unittest.main()
