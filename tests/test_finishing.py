"""Points 67 to 69: what is LEFT of things, whether they are FINISHED, and whether they can be."""

import copy
import itertools
import unittest
from collections import Counter

from partkits.casechecker import lets_cases
from partkits.dealings import is_dealing
from partkits.errors import HeapError, NoThing
from partkits.finishing import can_finish, could_anew, is_finished, left_to_do
from partkits.heaps import Heap
from partkits.pages import is_tale
from partkits.sheets import is_sheet
from partkits.telling import asides, heap_at, holding, thing_sheet, things_at
from tests.page_support import ODD, pages_of
from tests.paper_support import Refusals
from tests.support import LARGEST, NO_WORDS, all_just_tuples, builds, chances, made_odd, shares_a_tuple
from tests.tale_support import BUILT, GROUND, Story, heap_from, hours_of, some_tale

NO_NAMES = NO_WORDS + ODD + ((), "nobody", "Barn", "barn ", ("barn",), ["barn"])
PARTS = ("open", (("brick", "blue", 2), ("brick", "red", 3), ("plate", "blue", 1), ("plate", "red", 1)), ())
FIRST = BUILT[0][0]


def tale_with(*deeds, sheet=BUILT):
    """A TALE in which barn is begun of this SHEET, and these DEEDS are done."""
    return pages_of(PARTS, ("begin", "barn", sheet), *deeds)


class Left(unittest.TestCase):
    def left(self, *deeds, sheet=BUILT):
        """What is LEFT of barn behind these DEEDS, none of which is ASIDE, and whether it is FINISHED."""
        tale = tale_with(*deeds, sheet=sheet)
        self.assertEqual(asides(tale), ())
        told = left_to_do(tale, "barn")
        self.assertIs(is_sheet(told), True)
        self.assertEqual(told, Story(tale).left("barn"))
        finished = is_finished(tale, "barn")
        self.assertIs(finished, all(() in row for row in told))
        return told, finished

    def test_nothing_laid(self):
        for sheet, finished in ((BUILT, False), (BUILT[1:2], True), ((), True), ((((),),), True),
                                ((((("brick", (), 1),), ()),), True), ((((("brick", (), 1),),),), False)):
            self.assertEqual(self.left(sheet=sheet), (sheet, finished))

    def test_in_part(self):
        rest = (("brick", ("blue", "red"), 1), FIRST[1])
        self.assertEqual(self.left(("lay", "barn", 0, 0, 0, "red", 1)), (((rest,),) + BUILT[1:], False))
        self.assertEqual(self.left(("lay", "barn", 0, 0, 0, "red", 1), ("lay", "barn", 0, 0, 0, "blue", 1)),
                         (((FIRST[1:],),) + BUILT[1:], False))
        self.assertEqual(self.left(("lay", "barn", 0, 0, 1, "blue", 1)), (((FIRST[:1],),) + BUILT[1:], False))
        self.assertEqual(self.left(("lay", "barn", 0, 1, 0, "blue", 1)), ((((),),) + BUILT[1:], False))

    def test_a_way_that_holds_something_alone(self):
        """The other WAY is not LEFT, even where it would want nothing."""
        sheet = (((("plate", (), 2),), ()),)
        self.assertEqual(self.left(("lay", "barn", 0, 0, 0, "red", 1), sheet=sheet), ((((("plate", (), 1),),),), False))
        self.assertEqual(self.left(("lay", "barn", 0, 0, 0, "red", 1), ("off", "barn", 0, 0, 0, "red", 1), sheet=sheet),
                         (sheet, True))
        self.assertEqual(self.left(("lay", "barn", 0, 0, 0, "red", 1), ("lay", "barn", 0, 0, 0, "blue", 1), sheet=sheet),
                         ((((),),), True))

    def test_alike_wants_stay_apart_and_in_order(self):
        way = (("brick", ("red",), 2), ("plate", (), 1), ("brick", ("red",), 2), ("brick", (), 1))
        self.assertEqual(self.left(("lay", "barn", 0, 0, 2, "red", 1), sheet=((way,),)),
                         ((((way[0], way[1], ("brick", ("red",), 1), way[3]),),), False))
        self.assertEqual(self.left(("lay", "barn", 0, 0, 0, "red", 2), ("lay", "barn", 0, 0, 3, "blue", 1), sheet=((way,),)),
                         (((way[1:3],),), False))

    def test_all_laid(self):
        deeds = (("lay", "barn", 0, 0, 0, "blue", 2), ("lay", "barn", 0, 0, 1, "blue", 1), ("lay", "barn", 2, 0, 0, "red", 1))
        self.assertEqual(self.left(*deeds), ((((),), BUILT[1], ((),)), True))
        self.assertEqual(self.left(*deeds, ("lay", "barn", 1, 0, 0, "red", 1)), ((((),), ((),), ((),)), True))
        for at in range(3):
            self.assertIs(self.left(*deeds[:at], *deeds[at + 1:])[1], False)

    def test_at_an_hour_or_at_the_end(self):
        tale = tale_with(("lay", "barn", 2, 0, 0, "red", 1), ("lay", "barn", 0, 1, 0, "red", 1))
        self.assertEqual(left_to_do(tale, "barn", 1), BUILT)
        self.assertEqual(left_to_do(hour=2, name="barn", tale=tale), BUILT[:2] + (((),),))
        for told in (left_to_do(tale, "barn"), left_to_do(tale, "barn", None), left_to_do(tale, "barn", LARGEST)):
            self.assertEqual(told, (((),), BUILT[1], ((),)))
        self.assertEqual([is_finished(tale, "barn", hour) for hour in (1, 2, 3, None)], [False, False, True, True])
        self.assertIs(is_finished(hour=3, name="barn", tale=tale), True)
        self.assertIs(is_finished(tale, "barn"), True)

    def test_by_hand(self):
        seen = Counter()
        for chance in chances(200):
            tale = some_tale(chance)
            for hour in hours_of(tale):
                story = Story(tale, hour)
                for name in story.things:
                    told = left_to_do(tale, name, hour)
                    self.assertEqual(told, story.left(name))
                    self.assertIs(is_finished(tale, name, hour), all(() in row for row in told))
                    seen[is_finished(tale, name, hour), told == thing_sheet(tale, name, hour)] += 1
        self.assertEqual(len(seen), 4)


class Finish(unittest.TestCase):
    def looked_at(self, told, heap, sheet):
        """What build tells of a HEAP and a SHEET, looked at closely; whether it is dealt."""
        self.assertIs(type(told), tuple)
        self.assertTrue(all_just_tuples(told))
        word, paper = told
        if word == "dealt":
            self.assertIs(is_dealing(heap, sheet, paper), True)
        else:
            self.assertEqual(word, "cases")
            self.assertGreater(lets_cases(heap, sheet, paper), 0)
        self.assertIs(builds(heap, sheet), word == "dealt")
        return word == "dealt"

    def left_of(self, tale, names, hour=None):
        """The SHEET of all ROWS of what is LEFT, one thing's behind another's."""
        story = Story(tale, hour)
        return tuple(row for name in names for row in story.left(name))

    def test_one_thing(self):
        for deeds, told in (((), True), ((("lend", "ann", (("brick", "red", 3),)),), False),
                            ((("lay", "barn", 0, 0, 0, "red", 2), ("lend", "ann", (("brick", "red", 1),))), False),
                            ((("lay", "barn", 0, 0, 0, "red", 2),), True),
                            ((("lay", "barn", 0, 0, 0, "red", 1), ("lend", "ann", (("plate", "blue", 1),))), True),
                            ((("lay", "barn", 0, 0, 0, "red", 1), ("lend", "ann", (("plate", "blue", 1), ("plate", "red", 1)))),
                             False)):
            tale = tale_with(*deeds)
            self.assertEqual(asides(tale), ())
            for answer in (can_finish(tale), can_finish(tale, None, None), can_finish(tale, ("barn",)),
                           can_finish(hour=None, names=("barn",), tale=tale)):
                self.assertIs(self.looked_at(answer, heap_at(tale), left_to_do(tale, "barn")), told, deeds)

    def test_as_they_are_laid(self):
        """By the WAY that is laid there is no finishing, anew there is."""
        tale = tale_with(("lay", "barn", 0, 0, 0, "red", 1), ("lend", "ann", (("plate", "blue", 1), ("plate", "red", 1))))
        self.assertEqual(can_finish(tale, ("barn",))[0], "cases")
        self.assertEqual(could_anew(tale, "barn")[0], "dealt")
        tale += ((9, 0, ("off", "barn", 0, 0, 0, "red", 1)),)
        self.assertEqual(can_finish(tale, ("barn",))[0], "dealt")

    def test_no_things_and_no_names(self):
        for tale in ((), tale_with(), GROUND):
            self.assertEqual(can_finish(tale, ()), ("dealt", ((), ())))
        self.assertEqual(can_finish(()), ("dealt", ((), ())))
        self.assertEqual(can_finish(tale_with(), None, 0), ("dealt", ((), ())))

    def test_several_things_share_the_heap(self):
        one = (((("brick", ("red",), 2),),),)
        tale = tale_with(("begin", "cart", one), sheet=one)
        for names, told in ((("barn",), True), (("cart",), True), (("barn", "cart"), False), (("cart", "barn"), False),
                            (None, False), ((), True)):
            sheet = self.left_of(tale, ("barn", "cart") if names is None else names)
            self.assertIs(self.looked_at(can_finish(tale, names), heap_at(tale), sheet), told)
        tale += ((9, 0, ("open", (("brick", "red", 1),), ())),)
        self.assertEqual(can_finish(tale)[0], "dealt")
        self.assertEqual(can_finish(tale, hour=8)[0], "cases")
        self.assertEqual(can_finish(tale, None, 9)[0], "dealt")

    def test_in_the_order_of_names(self):
        sheets = {"barn": (((("brick", (), 1),),),), "cart": (((("plate", (), 1),), ()), ((),)), "mill": ()}
        tale = pages_of(PARTS, *[("begin", name, sheet) for name, sheet in sheets.items()])
        for names in [order for size in range(4) for order in itertools.permutations(sheets, size)]:
            word, (choice, given) = can_finish(tale, names)
            sheet = tuple(row for name in names for row in sheets[name])
            self.assertTrue(self.looked_at((word, (choice, given)), heap_at(tale), sheet))
            self.assertEqual(len(choice), len(sheet))
        word, (choice, given) = can_finish(tale)
        self.assertTrue(self.looked_at((word, (choice, given)), heap_at(tale), sheets["barn"] + sheets["cart"]))

    def test_many_things_of_many_ways(self):
        """Eight things of six ROWS of two WAYS: what hinders the last ROW is told without all others gone through."""
        row = ((("a", ("r",), 1),), (("a", ("s",), 1),))
        last = ((("b", (), 2),), (("c", (), 2),))
        names = [letter * 2 for letter in "abcdefgh"]
        tale = pages_of(("open", (("a", "r", 50), ("a", "s", 50), ("b", "x", 1), ("c", "x", 1)), ()),
                        *[("begin", name, (row,) * 5 + (last if name == "hh" else row,)) for name in names])
        word, tree = can_finish(tale)
        self.assertEqual(word, "cases")
        sheet = self.left_of(tale, names)
        self.assertEqual(lets_cases(heap_at(tale), sheet, tree), 2)
        more = tale + ((99, 0, ("open", (("c", "x", 1),), ())),)
        word, dealing = can_finish(more)
        self.assertEqual(word, "dealt")
        self.assertIs(is_dealing(heap_at(more), sheet, dealing), True)

    def test_dealt_just_where_some_choice_of_what_is_left_is_served(self):
        seen = Counter()
        for chance in chances(150):
            tale = some_tale(chance, 25)
            for hour in (None, chance.randint(0, 12), chance.randint(0, 12)):
                names = things_at(tale, hour)
                told = self.looked_at(can_finish(tale, hour=hour), heap_at(tale, hour), self.left_of(tale, names, hour))
                seen["all", told, len(names)] += 1
                for name in names:
                    told = self.looked_at(can_finish(tale, (name,), hour), heap_at(tale, hour),
                                          self.left_of(tale, (name,), hour))
                    seen["one", told] += 1
        for key in (("all", True, 2), ("all", False, 2), ("one", True), ("one", False)):
            self.assertGreater(seen[key], 10, key)

    def test_what_a_dealing_gives_finishes_the_things(self):
        """Laid by later PAGES, none of which is ASIDE then."""
        finished = 0
        for chance in chances(150):
            tale = some_tale(chance, 25)
            names = things_at(tale)
            word, dealing = can_finish(tale)
            if word == "dealt":
                more = tale + tuple(laying(tale, names, dealing))
                self.assertIs(is_tale(more), True)
                self.assertEqual(asides(more), asides(tale))
                for name in names:
                    self.assertIs(is_finished(more, name), True)
                finished += len(names)
        self.assertGreater(finished, 50)


def laying(tale, names, dealing):
    """PAGES that lay what the DEALING gives, behind the TALE."""
    choice, given = dealing
    gifts, number = list(given), 0
    places = list(choice)
    for name in names:
        sheet, held = thing_sheet(tale, name), holding(tale, name)
        for row, left in enumerate(Story(tale).left(name)):
            way = left[places.pop(0)]
            own = {key[1] for key in held if key[0] == row}
            # the place of the WAY and of its WANTS in the thing itself
            at = own.pop() if own else sheet[row].index(way)
            lacking = [want for want, (form, shades, many) in enumerate(sheet[row][at])
                       if sum(key[4] for key in held if key[:3] == (row, at, want)) < many]
            for want in lacking:
                for shade, many in gifts.pop(0):
                    yield (100, number, ("lay", name, row, at, want, shade, many))
                    number += 1


class Anew(unittest.TestCase):
    def test_with_all_that_it_holds(self):
        sheet = (((("brick", ("red",), 3),), (("plate", (), 2), ("brick", (), 1))),)
        tale = pages_of(("open", (("brick", "red", 3),), ()), ("begin", "barn", sheet), ("lay", "barn", 0, 0, 0, "red", 2),
                        ("lend", "ann", (("brick", "red", 1),)))
        self.assertEqual([could_anew(tale, "barn", hour)[0] for hour in (1, 2, 3, None)],
                         ["dealt", "dealt", "cases", "cases"])
        word, dealing = could_anew(hour=2, name="barn", tale=tale)
        self.assertIs(is_dealing(Heap((("brick", "red", 3),)), sheet, dealing), True)
        word, tree = could_anew(tale, "barn")
        self.assertEqual(lets_cases(Heap((("brick", "red", 2),)), sheet, tree), 2)

    def test_what_other_things_hold_is_not_there(self):
        sheet = (((("brick", ("red",), 2),),),)
        tale = pages_of(("open", (("brick", "red", 3),), ()), ("begin", "barn", sheet), ("begin", "cart", sheet),
                        ("lay", "cart", 0, 0, 0, "red", 2), ("lay", "barn", 0, 0, 0, "red", 1))
        self.assertEqual((could_anew(tale, "barn")[0], could_anew(tale, "cart")[0]), ("cases", "dealt"))

    def test_by_hand(self):
        seen = Counter()
        for chance in chances(150):
            tale = some_tale(chance, 25)
            for hour in (None, chance.randint(0, 12)):
                story = Story(tale, hour)
                for name in story.things:
                    heap, sheet = heap_from(story.heap + story.held(name)), story.things[name][0]
                    word, paper = could_anew(tale, name, hour)
                    self.assertIs(word == "dealt", builds(heap, sheet))
                    if word == "dealt":
                        self.assertIs(is_dealing(heap, sheet, paper), True)
                    else:
                        self.assertGreater(lets_cases(heap, sheet, paper), 0)
                    # as they are laid is one of the ways to build it anew
                    self.assertFalse(can_finish(tale, (name,), hour)[0] == "dealt" and word == "cases")
                    seen[word, can_finish(tale, (name,), hour)[0]] += 1
        self.assertTrue(all(seen[key] > 3 for key in (("dealt", "dealt"), ("dealt", "cases"), ("cases", "cases"))), seen)


class Refused(unittest.TestCase, Refusals):
    def test_no_thing_of_this_name(self):
        tale = tale_with()
        for ask in (left_to_do, is_finished, could_anew):
            for name in NO_NAMES:
                for hour in (None, 1):
                    with self.assertRaises(NoThing) as caught:
                        ask(tale, name, hour)
                    self.assertIs(caught.exception.name, name)
            with self.assertRaises(NoThing) as caught:
                ask(tale, "barn", 0)
            self.assertEqual(caught.exception.name, "barn")

    def test_the_first_of_names(self):
        tale = tale_with(("begin", "cart", ()))
        for name in NO_NAMES:
            for names in ((name,), (name, "mill"), ("barn", name), ("cart", name, "barn", 7), ("barn", "cart", name)):
                with self.assertRaises(NoThing) as caught:
                    can_finish(tale, names)
                self.assertIs(caught.exception.name, name)
        for names, first in ((("cart", "barn"), "cart"), (("barn", "cart"), "cart"), ((None, "x"), None), ((1, True), 1),
                             ((True, 1), True)):
            with self.assertRaises(NoThing) as caught:
                can_finish(tale, names, 1)
            self.assertIs(caught.exception.name, first)

    def test_taken_by_its_families_alone(self):
        tale = tale_with()
        for name in ("mill", 3, None, [], ()):
            for ask in (left_to_do, is_finished, could_anew, lambda own, odd: can_finish(own, ("barn", odd))):
                self.assert_families(NoThing, lambda: ask(tale, name), family=HeapError)


class New(unittest.TestCase):
    def test_new_and_nothing_is_changed(self):
        for tale in (copy.deepcopy(GROUND), made_odd(GROUND)):
            kept, names = copy.deepcopy(tale), ("cart", "barn")
            for ask in (lambda own: left_to_do(own, "barn"), lambda own: can_finish(own, names), can_finish,
                        lambda own: could_anew(own, "barn")):
                one, other = ask(tale), ask(tale)
                self.assertTrue(all_just_tuples(one))
                self.assertIs(type(one), tuple)
                self.assertFalse(shares_a_tuple(one, other))
                self.assertFalse(shares_a_tuple(one, tale))
            self.assertEqual((tale, names), (kept, ("cart", "barn")))


if __name__ == "__main__":
    unittest.main()
