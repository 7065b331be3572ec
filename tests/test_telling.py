"""Points 62 to 66: where all is, as a TALE has it."""

import copy
import unittest
from collections import Counter

from partkits.errors import HeapError, NoThing
from partkits.heaps import Heap
from partkits.pages import is_tale
from partkits.telling import asides, came, heap_at, holding, lent, lost, thing_sheet, things_at
from tests.page_support import ODD, pages_of
from tests.paper_support import Refusals
from tests.support import LARGEST, LONGEST_NUMBER, NO_WORDS, all_just_tuples, chances, made_odd, shares_a_tuple
from tests.tale_support import BUILT, CAN_BE, CANT_BE, GROUND, Story, hours_of, rows_from, some_tale

NO_NAMES = NO_WORDS + ODD + ((), "nobody", "Barn", "barn ", ("barn",), ["barn"])
TALE = (
    (1, 0, ("open", (("brick", "red", 4), ("plate", "blue", 2), ("brick", "red", 1)), (("brick", "red", 2),))),
    (2, 0, ("begin", "barn", BUILT)),
    (2, 1, ("lay", "barn", 0, 0, 0, "red", 2)),
    (2, 2, ("lay", "barn", 0, 0, 1, "blue", 1)),
    (4, 0, ("lend", "ann", (("plate", "blue", 1),))),
    (4, 0, ("lend", "bob", (("brick", "red", 1),))),
    (5, 0, ("bring", "bob", (("brick", "red", 1),))),
    (5, 1, ("lay", "barn", 2, 0, 0, "red", 1)),
    (7, 0, ("off", "barn", 0, 0, 0, "red", 1)),
    (8, 0, ("apart", "barn", (("brick", "red", 1), ("plate", "blue", 1)))),
    (8, 1, ("begin", "barn", ())),
    (8, 2, ("begin", "cart", BUILT[:1])),
)


def all_told(tale, hour):
    """All that is told of a TALE at an hour, by its plain things."""
    names = things_at(tale, hour)
    return (heap_at(tale, hour).rows(), came(tale, hour).rows(), lost(tale, hour).rows(), lent(tale, hour), names,
            [thing_sheet(tale, name, hour) for name in names], [holding(tale, name, hour) for name in names])


def all_by_hand(tale, hour):
    """The same, gone through by hand."""
    story = Story(tale, hour)
    names = tuple(sorted(story.things))
    return (rows_from(story.heap), rows_from(story.came), rows_from(story.lost),
            tuple((who, rows_from(story.lent[who])) for who in sorted(story.lent) if +story.lent[who]), names,
            [story.things[name][0] for name in names], [story.holding(name) for name in names])


class Told(unittest.TestCase):
    def test_the_heap(self):
        for hour, told in ((0, "-"), (1, "brick/red:3 plate/blue:2"), (2, "brick/red:1 plate/blue:1"),
                           (3, "brick/red:1 plate/blue:1"), (4, "-"), (5, "-"), (6, "-"), (7, "brick/red:1"),
                           (8, "brick/red:2"), (9, "brick/red:2"), (LONGEST_NUMBER, "brick/red:2"), (None, "brick/red:2")):
            self.assertEqual(str(heap_at(TALE, hour)), told)
            self.assertEqual(str(heap_at(hour=hour, tale=TALE)), told)
        self.assertEqual(str(heap_at(TALE)), "brick/red:2")

    def test_what_came_and_what_is_lost(self):
        for hour in (0, 1, 7, 8, 9, None):
            self.assertEqual(str(came(TALE, hour)), "-" if hour == 0 else "brick/red:3 plate/blue:2")
            self.assertEqual(str(lost(TALE, hour)), "brick/red:1 plate/blue:1" if hour in (8, 9, None) else "-")
        self.assertEqual(str(came(hour=1, tale=TALE)), str(came(TALE)))
        self.assertEqual((str(lost(hour=7, tale=TALE)), str(lost(TALE))), ("-", "brick/red:1 plate/blue:1"))
        self.assertIsInstance(came(TALE), Heap)
        self.assertIsInstance(lost(TALE, 0), Heap)

    def test_who_has_what(self):
        ann, bob = ("ann", (("plate", "blue", 1),)), ("bob", (("brick", "red", 1),))
        for hour, told in ((0, ()), (3, ()), (4, (ann, bob)), (5, (ann,)), (8, (ann,)), (None, (ann,))):
            self.assertEqual(lent(TALE, hour), told)
        self.assertEqual((lent(hour=4, tale=TALE), lent(TALE)), ((ann, bob), (ann,)))

    def test_several_lent_to_one_and_brought_back_in_part(self):
        tale = pages_of(("open", (("b", "s", 5), ("a", "r", 5), ("a", "q", 5)), ()), ("lend", "zoe", (("b", "s", 2),)),
                        ("lend", "zoe", (("a", "r", 1), ("b", "s", 1), ("a", "q", 1), ("a", "r", 1))),
                        ("lend", "al", (("a", "q", 4),)), ("bring", "zoe", (("b", "s", 2), ("a", "q", 1))),
                        ("bring", "al", (("a", "q", 3),)), ("bring", "al", (("a", "q", 1),)))
        self.assertEqual(lent(tale, 2), (("zoe", (("a", "q", 1), ("a", "r", 2), ("b", "s", 3))),))
        self.assertEqual(lent(tale, 5), (("al", (("a", "q", 1),)), ("zoe", (("a", "r", 2), ("b", "s", 1)))))
        self.assertEqual(lent(tale), (("zoe", (("a", "r", 2), ("b", "s", 1))),))
        self.assertEqual(asides(tale), ())

    def test_the_names(self):
        for hour, told in ((0, ()), (1, ()), (2, ("barn",)), (7, ("barn",)), (8, ("barn", "cart")),
                           (None, ("barn", "cart"))):
            self.assertEqual(things_at(TALE, hour), told)
        self.assertEqual((things_at(TALE), things_at(hour=2, tale=TALE)), (("barn", "cart"), ("barn",)))

    def test_sheets(self):
        for hour in range(2, 8):
            self.assertEqual(thing_sheet(TALE, "barn", hour), BUILT)
        self.assertEqual(thing_sheet(TALE, "barn", 8), ())
        self.assertEqual(thing_sheet(hour=None, name="cart", tale=TALE), BUILT[:1])
        self.assertEqual(thing_sheet(TALE, "cart"), BUILT[:1])

    def test_what_is_held(self):
        plate = (0, 0, 1, "blue", 1)
        for hour, told in ((2, ((0, 0, 0, "red", 2), plate)), (4, ((0, 0, 0, "red", 2), plate)),
                           (5, ((0, 0, 0, "red", 2), plate, (2, 0, 0, "red", 1))),
                           (7, ((0, 0, 0, "red", 1), plate, (2, 0, 0, "red", 1))), (8, ()), (None, ())):
            self.assertEqual(holding(TALE, "barn", hour), told)
        self.assertEqual(holding(TALE, "barn"), ())
        self.assertEqual(holding(hour=2, name="barn", tale=TALE)[1], plate)

    def test_a_want_of_several_shades(self):
        sheet = (((("a", (), 9),),),)
        tale = pages_of(("open", tuple(("a", shade, 3) for shade in "tsr"), ()), ("begin", "x", sheet),
                        ("lay", "x", 0, 0, 0, "t", 1), ("lay", "x", 0, 0, 0, "r", 3), ("lay", "x", 0, 0, 0, "s", 2),
                        ("lay", "x", 0, 0, 0, "t", 2), ("off", "x", 0, 0, 0, "r", 3), ("lay", "x", 0, 0, 0, "r", 1))
        self.assertEqual(holding(tale, "x", 5), ((0, 0, 0, "r", 3), (0, 0, 0, "s", 2), (0, 0, 0, "t", 3)))
        self.assertEqual(holding(tale, "x", 6), ((0, 0, 0, "s", 2), (0, 0, 0, "t", 3)))
        self.assertEqual(holding(tale, "x"), ((0, 0, 0, "r", 1), (0, 0, 0, "s", 2), (0, 0, 0, "t", 3)))
        self.assertEqual(asides(tale), ())

    def test_another_way_once_the_first_one_holds_nothing(self):
        tale = GROUND + ((6, 0, ("lay", "barn", 0, 1, 0, "blue", 1)), (7, 0, ("off", "barn", 0, 0, 0, "red", 1)),
                         (8, 0, ("lay", "barn", 0, 1, 0, "blue", 1)), (9, 0, ("lay", "barn", 0, 0, 0, "red", 1)))
        self.assertEqual(asides(tale), (tale[5], tale[8]))
        self.assertEqual(holding(tale, "barn"), ((0, 1, 0, "blue", 1),))

    def test_begun_anew_by_the_same_name(self):
        tale = GROUND + ((6, 0, ("apart", "barn", ())), (7, 0, ("lay", "barn", 0, 0, 0, "red", 1)),
                         (8, 0, ("begin", "barn", BUILT[1:])), (9, 0, ("lay", "barn", 1, 0, 0, "red", 1)))
        self.assertEqual(asides(tale), (tale[6],))
        self.assertEqual(things_at(tale, 6), ("cart",))
        self.assertEqual(holding(tale, "barn"), ((1, 0, 0, "red", 1),))
        self.assertEqual(thing_sheet(tale, "barn"), BUILT[1:])

    def test_the_order_of_one_hour(self):
        """In one hour PAGES go by their numbers, then by their DEEDS."""
        rows = (("brick", "red", 1),)
        lend, give = ("lend", "ann", rows), ("open", rows, ())
        self.assertEqual(asides(((0, 0, lend), (0, 0, give))), ((0, 0, lend),))
        self.assertEqual(asides(((0, 0, give), (0, 1, lend))), ())
        self.assertEqual(asides(((0, 1, give), (1, 0, lend))), ())
        self.assertEqual(asides(((0, 9, lend), (0, 10, give))), ((0, 9, lend),))

    def test_no_pages(self):
        for hour in (None, 0, LARGEST):
            self.assertEqual(all_told((), hour), ((), (), (), (), (), [], []))
        self.assertEqual(asides(()), ())
        self.assertEqual(asides(tale=TALE), ())

    def test_large_counts(self):
        rows = (("a", "r", LARGEST),)
        tale = pages_of(*[("open", rows, ())] * 30, ("begin", "x", (((("a", (), LARGEST), ("a", ("r",), LARGEST)),),)),
                        ("lay", "x", 0, 0, 0, "r", LARGEST), ("lay", "x", 0, 0, 1, "r", LARGEST - 1),
                        ("lay", "x", 0, 0, 1, "r", 2), ("lend", "ann", rows * 27), ("lend", "ann", rows * 2))
        self.assertEqual(heap_at(tale).rows(), (("a", "r", LARGEST + 1),))
        self.assertEqual(lent(tale), (("ann", (("a", "r", 27 * LARGEST),)),))
        self.assertEqual(asides(tale), (tale[33], tale[35]))


class Aside(unittest.TestCase):
    def test_each_reason_alone(self):
        self.assertEqual(asides(GROUND), ())
        before = all_told(GROUND, None)
        for deed in CANT_BE:
            page = (20, 0, deed)
            self.assertEqual(asides(GROUND + (page,)), (page,), deed)
            self.assertEqual(all_told(GROUND + (page,), None), before, deed)
            self.assertEqual(all_told(GROUND + (page,), 19), before)

    def test_in_a_tale_where_all_else_can_be(self):
        behind = ((30, 0, ("open", (("tile", "x", 1),), ())), (31, 0, ("lay", "barn", 0, 0, 1, "blue", 1)),
                  (32, 0, ("apart", "barn", (("plate", "blue", 1),))), (33, 0, ("bring", "ann", (("brick", "red", 1),))))
        self.assertEqual(asides(GROUND + behind), ())
        told = all_told(GROUND + behind, None)
        for deed in CANT_BE:
            page = (20, 0, deed)
            self.assertEqual(asides(GROUND + (page,) + behind), (page,), deed)
            self.assertEqual(all_told(GROUND + (page,) + behind, None), told, deed)

    def test_almost_the_same_ones_can_be(self):
        for deed in CAN_BE:
            self.assertEqual(asides(GROUND + ((20, 0, deed),)), (), deed)

    def test_with_nothing_ahead(self):
        for deed in CANT_BE + CAN_BE:
            told = asides(((0, 0, deed),))
            can_be = deed[0] in ("open", "begin") and deed not in CANT_BE[:4] or deed[2] == () and deed[0] != "apart"
            self.assertEqual(told, () if can_be else ((0, 0, deed),), deed)

    def test_as_they_stand(self):
        tale = tuple((at, 0, deed) for at, deed in enumerate(CANT_BE, 20))
        self.assertEqual(asides(GROUND + tale), tale)
        for at in range(len(tale)):
            rest = tale[:at] + tale[at + 1:]
            self.assertEqual(asides(GROUND + rest), rest)

    def test_what_is_aside_by_what_is_ahead_alone(self):
        early, late = (0, 0, ("lend", "ann", (("brick", "red", 1),))), (9, 0, ("open", (("brick", "red", 9),), ()))
        self.assertEqual(asides((early, late)), (early,))
        self.assertEqual(lent((early, late)), ())

    def test_by_hand(self):
        asided = 0
        for chance in chances(300):
            tale = some_tale(chance)
            told = asides(tale)
            self.assertEqual(told, tuple(Story(tale).aside))
            self.assertTrue(set(told) <= set(tale))
            self.assertIs(is_tale(told), True)
            asided += len(told)
        self.assertGreater(asided, 300)


class ByHand(unittest.TestCase):
    def test_at_each_hour(self):
        seen = Counter()
        for chance in chances(250):
            tale = some_tale(chance)
            self.assertIs(is_tale(tale), True)
            self.assertLessEqual(len(tale), 40)
            for hour in hours_of(tale):
                told = all_told(tale, hour)
                self.assertEqual(told, all_by_hand(tale, hour), (tale, hour))
                seen.update(["lost"] * bool(told[2]) + ["lent"] * bool(told[3]) + ["held"] * any(told[6]))
                seen.update(["shades"] * any(len({key[:3] for key in held}) < len(held) for held in told[6]))
        self.assertTrue(all(seen[word] > 30 for word in ("lost", "lent", "held", "shades")), seen)

    def test_all_together_is_just_what_came(self):
        """Point 66."""
        for chance in chances(200):
            tale = some_tale(chance)
            for hour in hours_of(tale):
                together = heap_at(tale, hour).plus(lost(tale, hour))
                for who, rows in lent(tale, hour):
                    together = together.plus(Heap(rows))
                for name in things_at(tale, hour):
                    sheet = thing_sheet(tale, name, hour)
                    held = holding(tale, name, hour)
                    together = together.plus(Heap(tuple((sheet[row][way][want][0], shade, many)
                                                        for row, way, want, shade, many in held)))
                    self.no_more_than_wanted(sheet, held)
                self.assertEqual(together, came(tale, hour))

    def no_more_than_wanted(self, sheet, held):
        """That no WANT holds more than it wants, or what it doesn't let, and no ROW by two WAYS."""
        for row, way, want, shade, many in held:
            form, shades, wanted = sheet[row][way][want]
            self.assertTrue(not shades or shade in shades)
            self.assertLessEqual(sum(own[4] for own in held if own[:3] == (row, way, want)), wanted)
            self.assertEqual({own[1] for own in held if own[0] == row}, {way})

    def test_by_the_pages_up_to_the_hour_alone(self):
        for chance in chances(60):
            tale = some_tale(chance)
            for hour in hours_of(tale)[:-1]:
                fewer = tuple(page for page in tale if page[0] <= hour)
                self.assertEqual(all_told(tale, hour), all_told(fewer, None))


class Refused(unittest.TestCase, Refusals):
    def test_no_thing_of_this_name(self):
        for ask in (thing_sheet, holding):
            for name in NO_NAMES:
                for hour in (None, 5):
                    with self.assertRaises(NoThing) as caught:
                        ask(TALE, name, hour)
                    self.assertIs(caught.exception.name, name)

    def test_not_yet_and_no_more(self):
        tale = TALE[:10]
        for ask in (thing_sheet, holding):
            for hour in (0, 1, 8, 9, None):
                with self.assertRaises(NoThing) as caught:
                    ask(tale, "barn", hour)
                self.assertEqual(caught.exception.name, "barn")
            ask(tale, "barn", 2)
            ask(tale, "barn", 7)

    def test_begun_by_a_page_that_is_aside(self):
        tale = GROUND + ((20, 0, ("begin", "barn", ())),)
        self.assertEqual(thing_sheet(tale, "barn"), BUILT)

    def test_taken_by_its_families_alone(self):
        for ask in (thing_sheet, holding):
            for name in ("mill", 3, None, [], ()):
                self.assert_families(NoThing, lambda: ask(TALE, name), family=HeapError)
                self.assert_families(NoThing, lambda: ask((), name, 0), family=HeapError)


class New(unittest.TestCase):
    def test_new_and_nothing_is_changed(self):
        for tale in (copy.deepcopy(TALE), made_odd(TALE), GROUND + tuple((20, at, deed) for at, deed in enumerate(CANT_BE))):
            kept = copy.deepcopy(tale)
            for ask in (asides, lent, things_at, lambda own: thing_sheet(own, "cart"), lambda own: holding(own, "barn", 5)):
                one, other = ask(tale), ask(tale)
                self.assertEqual(one, other)
                self.assertIs(type(one), tuple)
                self.assertTrue(all_just_tuples(one))
                self.assertFalse(shares_a_tuple(one, other))
                self.assertFalse(shares_a_tuple(one, tale))
            for ask in (heap_at, came, lost):
                self.assertEqual(ask(tale), ask(tale))
                self.assertIs(type(ask(tale)), Heap)
                self.assertIs(type(ask(tale, 4)), Heap)
            self.assertEqual(tale, kept)


if __name__ == "__main__":
    unittest.main()
