"""What point 51's trees rest on: weights and fillings, leasts and mosts, HEAPS with KITS counted by multiplying."""

import copy
import unittest

from partkits.heaps import Heap
from partkits.kitheaps import with_kits
from partkits.kitspans import span_first, span_high, span_low
from partkits.weighing import weighed
from tests.kit_support import CAR, HEAP, KITS, heap_of
from tests.support import LARGEST, chances


def by_weight(weights, have):
    """What a KIT HAS, each times its weight."""
    return sum(weight * has for weight, has in zip(weights, have))


class Weighed(unittest.TestCase):
    def told(self, lacks, haves, spans, bound):
        """The word that is told, what is told looked at closely."""
        kept = copy.deepcopy((lacks, haves, spans))
        word, scale, told = weighed(lacks, haves, spans, bound)
        self.assertEqual((lacks, haves, spans), kept)
        self.assertTrue(all(type(own) is int and own >= 0 for own in told))
        self.assertGreaterEqual(scale, 1)
        if word == "weights":
            self.count_weights(lacks, haves, spans, bound, scale, told)
        else:
            self.assertEqual(word, "filling")
            self.count_filling(lacks, haves, spans, bound, scale, told)
        return word

    def count_weights(self, lacks, haves, spans, bound, scale, weights):
        """That the weights show that more than the bound are needed."""
        self.assertEqual(len(weights), len(lacks))
        count = by_weight(weights, lacks)
        for have, span in zip(haves, spans):
            count -= max(0, by_weight(weights, have) - scale) * span
        self.assertGreater(count, bound * scale)

    def count_filling(self, lacks, haves, spans, bound, scale, many):
        """That so many fill what lacks, and are within the spans and the bound, and that no fewer do."""
        self.assertEqual(len(many), len(spans))
        self.assertLessEqual(sum(many), bound * scale)
        self.assertTrue(all(own <= span * scale for own, span in zip(many, spans)))
        for at, lack in enumerate(lacks):
            self.assertGreaterEqual(sum(own * have[at] for own, have in zip(many, haves)), lack * scale)
        finer = ([lack * scale for lack in lacks], haves, [span * scale for span in spans], sum(many) - 1)
        self.assertEqual(weighed(*finer)[0], "weights")
        self.count_weights(*finer, *weighed(*finer)[1:])

    def test_of_none(self):
        self.assertEqual(weighed([], [], [], -1), ("weights", 1, []))
        self.assertEqual(weighed([], [], [], 0), ("filling", 1, []))
        self.assertEqual(weighed([], [[], []], [-1, -1], -1), ("weights", 1, []))
        self.assertEqual(weighed([], [[], []], [3, 3], 3), ("filling", 1, [0, 0]))
        self.assertEqual(weighed([0, -2], [[1, 1]], [3], 3), ("filling", 1, [0]))

    def test_one_kit(self):
        for lack in range(1, 20):
            for has in range(1, 5):
                for bound in range(8):
                    word = self.told([lack], [[has]], [bound], bound)
                    self.assertEqual(word, "filling" if lack <= has * bound else "weights")

    def test_a_kit_of_none_and_a_span_of_none(self):
        self.assertEqual(self.told([1], [[0]], [5], 5), "weights")
        self.assertEqual(self.told([1], [[5]], [0], 5), "weights")
        self.assertEqual(self.told([7, 3], [[5, 2], [2, 5]], [0, 0], 4), "weights")
        self.assertEqual(self.told([7, 3], [[5, 2], [2, 5]], [0, 3], 3), "weights")
        self.assertEqual(self.told([7, 3], [[5, 2], [2, 5]], [0, 4], 4), "filling")

    def test_fractions(self):
        self.assertEqual(weighed([3], [[2]], [9], 9), ("filling", 2, [3]))
        self.assertEqual(self.told([1, 1, 1], [[1, 1, 0], [0, 1, 1], [1, 0, 1]], [1, 1, 1], 1), "weights")
        self.assertEqual(self.told([1, 1, 1], [[1, 1, 0], [0, 1, 1], [1, 0, 1]], [1, 1, 1], 2), "filling")

    def test_large_ones(self):
        haves = [[LARGEST, 1, 7], [1, LARGEST, 11], [13, 5, LARGEST - 1]]
        for bound in (2, 3, 4, LARGEST):
            self.told([LARGEST, LARGEST, LARGEST], haves, [bound] * 3, bound)
            self.told([40 * LARGEST, 3, LARGEST * LARGEST], haves, [bound, bound // 2, bound], bound)

    def test_small_ones_of_every_sort(self):
        seen = {"weights": 0, "filling": 0}
        for chance in chances(3000):
            places, kits = chance.randint(0, 5), chance.randint(0, 4)
            lacks = [chance.randint(-2, 9) for place in range(places)]
            haves = [[chance.randint(0, 4) for place in range(places)] for kit in range(kits)]
            bound = chance.randint(0, 8)
            seen[self.told(lacks, haves, [chance.randint(0, bound) for kit in range(kits)], bound)] += 1
        self.assertTrue(min(seen.values()) > 500, seen)


class Spans(unittest.TestCase):
    def test_at_first(self):
        self.assertEqual(span_first(KITS, 5), ((0, 0, 0), (4, 4, 4)))
        self.assertEqual(span_first(KITS, 0), ((0, 0, 0), (-1, -1, -1)))
        self.assertEqual(span_first((), 3), ((), ()))

    def test_low(self):
        self.assertEqual(span_low(((0, 0, 0), (4, 4, 4)), 1, 2), ((0, 0, 0), (4, 2, 4)))
        self.assertEqual(span_low(((1, 1), (3, 3)), 0, 1), ((1, 1), (1, 3)))

    def test_high_leaves_the_others_what_is_left(self):
        self.assertEqual(span_high(((0, 0, 0), (4, 4, 4)), 1, 2, 5), ((0, 3, 0), (1, 4, 1)))
        self.assertEqual(span_high(((0, 3, 0), (1, 4, 1)), 0, 0, 5), ((1, 3, 0), (1, 3, 0)))
        self.assertEqual(span_high(((0, 0, 0), (1, 4, 3)), 1, 0, 5), ((0, 1, 0), (1, 4, 3)))
        self.assertEqual(span_high(((2, 0), (6, 5)), 0, 3, 8), ((4, 0), (6, 3)))


class WithKits(unittest.TestCase):
    def test_counted_by_multiplying(self):
        self.assertEqual(with_kits(HEAP, KITS, (0, 0, 0)), HEAP)
        self.assertEqual(with_kits(HEAP, KITS, (2, 0, 0)), HEAP.plus(CAR).plus(CAR))
        self.assertEqual(with_kits(HEAP, KITS, (1, 1, 1)), HEAP.plus(KITS[0]).plus(KITS[1]).plus(KITS[2]))
        self.assertEqual(with_kits(Heap(), (heap_of(r=3),), (10 ** 60,)), heap_of(r=3 * 10 ** 60))
        self.assertEqual(with_kits(HEAP, (), ()), HEAP)

    def test_by_a_scale(self):
        self.assertEqual(with_kits(HEAP, KITS, (1, 0, 0), 2), HEAP.plus(HEAP).plus(CAR))
        self.assertEqual(with_kits(HEAP, (), (), 3), HEAP.plus(HEAP).plus(HEAP))


if __name__ == "__main__":
    unittest.main()
