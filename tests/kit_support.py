"""What tests of KITS need: KITS and PLAIN SHEETS, PLACES counted out, and slow, plain ways to the same answers."""

import itertools

from partkits.heaps import Heap
from tests.paper_support import subsets
from tests.support import counted, plain_number, plain_word, serves_some, some_rows, some_want

CAR = Heap((("wheel", "black", 4), ("brick", "red", 2), ("plate", "lime", 1)))
WALL = Heap((("brick", "red", 3), ("brick", "blue", 3)))
SPARE = Heap((("wheel", "black", 1), ("tile", "x", 5)))
KITS = (CAR, WALL, SPARE)
HEAP = Heap((("brick", "blue", 1), ("wheel", "white", 2)))
WANTS = (("wheel", (), 9), ("brick", ("blue",), 5), ("brick", ("blue", "red"), 4), ("plate", ("lime", "red"), 1))


def plain_of(*wants):
    """A PLAIN SHEET with a ROW for each of the WANTS."""
    return tuple(((want,),) for want in wants)


def heap_of(form="a", **counts):
    """A HEAP of one FORM with so many of each SHADE."""
    return Heap(tuple((form, shade, many) for shade, many in counts.items() if many))


def wanted_there(wants, place):
    """How many are WANTED at a PLACE, counted out."""
    form, shades = place
    return sum(many for own, some, many in wants
               if own == form and (shades is None or (some and set(some) <= set(shades))))


def had_there(heap, place):
    """How many a HEAP HAS at a PLACE, counted out."""
    form, shades = place
    return sum(many for own, shade, many in heap.rows() if own == form and (shades is None or shade in shades))


def is_place(thing):
    """Whether a thing is a PLACE."""
    if type(thing) is not tuple or len(thing) != 2 or not plain_word(thing[0]):
        return False
    shades = thing[1]
    if shades is None:
        return True
    return (type(shades) is tuple and len(shades) > 0 and all(plain_word(shade) for shade in shades)
            and list(shades) == sorted(set(shades)))


def is_never(heap, kits, wants, place):
    """Whether a PLACE is a NEVER."""
    lacks = wanted_there(wants, place) > had_there(heap, place)
    return lacks and not any(had_there(kit, place) for kit in kits)


def all_places(forms, shades):
    """All PLACES of these FORMS and SHADES."""
    return [(form, some) for form in forms for some in subsets(shades)[1:] + [None]]


def with_so_many(heap, kits, many):
    """The HEAP with so many of the KITS, counted by multiplying."""
    rows = heap.rows()
    for kit, times in zip(kits, many):
        rows += tuple((form, shade, own * times) for form, shade, own in kit.rows() if times)
    return Heap(rows)


def makes(heap, kits, many, wants):
    """Whether MANY MAKE the SHEET of these WANTS, PART by PART."""
    return serves_some(counted(with_so_many(heap, kits, many).rows()), tuple(wants))


def all_many(size, total):
    """All MANY for so many KITS that come to total."""
    if size == 0:
        return [()] if total == 0 else []
    return [(first,) + rest for first in range(total + 1) for rest in all_many(size - 1, total - first)]


def fewest_tried(heap, kits, wants, bound):
    """How many KITS MAKE the SHEET at the fewest, all MANY tried up to the bound; None where none of these do."""
    for total in range(bound + 1):
        if any(makes(heap, kits, many, wants) for many in all_many(len(kits), total)):
            return total
    return None


def some_kits(chance, most=3):
    """A HEAP, KITS, some of them alike or of none, and WANTS."""
    kits = tuple(Heap(some_rows(chance, most=4, many=2)) for at in range(chance.randint(0, most)))
    kits = kits + kits[:1] if chance.randint(0, 3) == 0 and len(kits) < most else kits
    wants = tuple(some_want(chance, 3) for at in range(chance.randint(0, 4)))
    return Heap(some_rows(chance, most=2, many=2)), kits, wants


def small_kits(manys):
    """All KITS of one FORM and two SHADES with these manys, one order of each, at most two."""
    single = [heap_of(r=red, s=other) for red, other in itertools.product(manys, repeat=2)]
    return [kits for size in range(3) for kits in itertools.combinations_with_replacement(single, size)]


class TreeWalk:
    """For a TestCase: goes through a FEWEST TREE as point 51 tells it."""

    def walk(self, heap, kits, wants, fewest, tree):
        """That the tree is a FEWEST TREE of fewest; its entries as (word, leasts, mosts), as they are gone through."""
        waiting = [(tree, [0] * len(kits), [fewest - 1] * len(kits))]
        seen = []
        while waiting:
            entry, leasts, mosts = waiting.pop()
            self.assertIs(type(entry), tuple)
            seen.append((entry[0], tuple(leasts), tuple(mosts)))
            if entry[0] == "more":
                waiting += self.split(entry, leasts, mosts, fewest)
            else:
                self.count_out(entry, heap, kits, wants, leasts, mosts, fewest)
        return seen

    def split(self, entry, leasts, mosts, fewest):
        """What waits below a node, the high one first."""
        word, k, a, low, high = entry
        self.assertTrue(plain_number(k) and 0 <= k < len(leasts), entry)
        self.assertTrue(plain_number(a) and leasts[k] <= a < mosts[k], (entry[:3], leasts, mosts))
        below = mosts[:k] + [a] + mosts[k + 1:]
        least = leasts[:k] + [a + 1] + leasts[k + 1:]
        above = [min(own, fewest - 1 - sum(least[:at] + least[at + 1:])) for at, own in enumerate(mosts)]
        return [(high, least, above), (low, leasts, below)]

    def count_out(self, entry, heap, kits, wants, leasts, mosts, fewest):
        """That a leaf shows that there are too many."""
        word, d, weights = entry
        self.assertEqual(word, "leaf")
        self.assertTrue(plain_number(d) and d >= 1, entry)
        self.assertIs(type(weights), tuple)
        total = 0
        by_kit = [0] * len(kits)
        for form, shades, w in weights:
            place = (form, shades)
            self.assertTrue(is_place(place) and plain_number(w) and w >= 1, entry)
            lack = wanted_there(wants, place) - had_there(heap, place)
            lack -= sum(least * had_there(kit, place) for least, kit in zip(leasts, kits))
            total += w * lack
            by_kit = [own + w * had_there(kit, place) for own, kit in zip(by_kit, kits)]
        for own, least, most in zip(by_kit, leasts, mosts):
            total -= max(0, own - d) * (most - least)
        self.assertGreater(total, d * (fewest - 1 - sum(leasts)), (entry, leasts, mosts))
