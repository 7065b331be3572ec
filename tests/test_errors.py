"""Point 9: the refusals, their families and their fields."""

import inspect
import unittest

from partkits import errors
from partkits.heaps import Heap
from tests.support import LONGEST_NUMBER, deep

FAMILIES = ("HeapError", "PaperError", "PageError", "TextError")
REFUSALS = {
    "NoParts": ("HeapError", ("lacking",)),
    "NoThing": ("HeapError", ("name",)),
    "NoPaper": ("PaperError", ("word", "at")),
    "NoDealing": ("PaperError", ("paper",)),
    "NoKits": ("PaperError", ("paper",)),
    "NoPage": ("PageError", ("word",)),
    "NoBack": ("PageError", ()),
    "NoText": ("TextError", ("line", "word")),
    "NoLine": ("TextError", ("line",)),
}
THINGS = (None, True, False, 0, 1, -1, LONGEST_NUMBER, "", "shape", "a\nb", (), (1, (2,)), [], [1, [2]],
          deep(20, 1), deep(20, 1, True), Heap(), Heap((("brick", "red", 3),)))


class Shy:
    """A thing that can't bear being looked at."""

    def refuse(self, *more):
        raise AssertionError("it was looked at")

    __eq__ = __ne__ = __lt__ = __hash__ = __len__ = __bool__ = __iter__ = refuse
    __str__ = __repr__ = __format__ = __getitem__ = __contains__ = __int__ = __index__ = refuse


def named(name):
    """The error class of this name."""
    return getattr(errors, name)


class Families(unittest.TestCase):
    def test_base_and_families_stand_straight_under_one_another(self):
        self.assertEqual(errors.KitError.__bases__, (ValueError,))
        for family in FAMILIES:
            self.assertEqual(named(family).__bases__, (errors.KitError,), family)
        for name, (family, fields) in REFUSALS.items():
            self.assertEqual(named(name).__bases__, (named(family),), name)

    def test_taken_by_own_name_family_and_bases_and_by_nothing_else(self):
        for name, (family, fields) in REFUSALS.items():
            lets = {name, family, "KitError"}
            for other in ("KitError",) + FAMILIES + tuple(REFUSALS):
                taken = False
                try:
                    raise named(name)(*fields)
                except named(other):
                    taken = True
                except Exception:
                    pass
                self.assertEqual(taken, other in lets, (name, other))
            with self.assertRaises(ValueError):
                raise named(name)(*fields)


class Fields(unittest.TestCase):
    def test_made_of_just_the_fields(self):
        for name, (family, fields) in REFUSALS.items():
            parameters = tuple(inspect.signature(named(name)).parameters)
            self.assertEqual(parameters, fields, name)
            with self.assertRaises(TypeError):
                named(name)(*fields, "more")
            if fields:
                with self.assertRaises(TypeError):
                    named(name)(*fields[1:])

    def test_keeps_the_very_things(self):
        for name, (family, fields) in REFUSALS.items():
            for first in THINGS:
                things = [first, [first]][:len(fields)]
                by_place = named(name)(*things)
                by_name = named(name)(**dict(zip(fields, things)))
                self.assertEqual(set(vars(by_place)), set(fields))
                for field, thing in zip(fields, things):
                    self.assertIs(getattr(by_place, field), thing)
                    self.assertIs(getattr(by_name, field), thing)

    def test_looks_at_them_in_no_way(self):
        for name, (family, fields) in REFUSALS.items():
            shy = [Shy() for field in fields]
            with self.assertRaises(named(name)) as caught:
                raise named(name)(*shy)
            str(caught.exception), repr(caught.exception)
            for field, thing in zip(fields, shy):
                self.assertIs(getattr(caught.exception, field), thing)

    def test_two_refusals_know_nothing_of_one_another(self):
        one, other = errors.NoPaper("shape", 1), errors.NoPaper("more", 2)
        self.assertEqual((one.word, one.at, other.word, other.at), ("shape", 1, "more", 2))


if __name__ == "__main__":
    unittest.main()
