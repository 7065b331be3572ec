"""Points 1, 7 and 8: what is promised over the whole program, told by one part of it and seen by another."""

import itertools
import unittest

from partkits.apart import parting
from partkits.book import Book
from partkits.casechecker import lets_cases
from partkits.classes import is_alike
from partkits.desk import Desk
from partkits.errors import NoKits
from partkits.finishing import can_finish, could_anew, is_finished
from partkits.heaps import Heap
from partkits.kitting import fewest
from partkits.lines import shown_page, shown_tale
from partkits.most import most
from partkits.onemore import joinable
from partkits.pages import is_tale
from partkits.readings import read_tale
from partkits.telling import asides, came, heap_at, holding, lent, lost, things_at
from tests.class_support import moved, some_vocabulary
from tests.kit_support import all_many, plain_of, some_kits
from tests.most_support import some_things
from tests.support import chances, some_rows
from tests.tale_support import hours_of, some_tale

NAMES = ("aa", "bb", "cc", "dd", "ee")


def opened(heap, begun, kits=(), many=()):
    """A TALE by which the HEAP and so many KITS come, and these things are begun."""
    deeds = [("open", heap.rows(), ())]
    for kit, times in zip(kits, many):
        deeds += [("open", kit.rows(), ())] * times
    deeds += [("begin", name, sheet) for name, sheet in begun]
    return tuple((0, at, deed) for at, deed in enumerate(deeds))


class Together(unittest.TestCase):
    def test_the_fewest_kits_opened_are_enough_and_no_fewer_are(self):
        seen = set()
        for chance in chances(80):
            heap, kits, wants = some_kits(chance, 2)
            try:
                many = fewest(heap, kits, plain_of(*wants))
            except NoKits:
                continue
            tale = opened(heap, [("barn", plain_of(*wants))], kits, many)
            self.assertEqual(asides(tale), ())
            self.assertEqual(can_finish(tale)[0], "dealt")
            for fewer in all_many(len(kits), sum(many) - 1):
                tale = opened(heap, [("barn", plain_of(*wants))], kits, fewer)
                self.assertEqual(can_finish(tale)[0], "cases")
            seen.add(sum(many))
        self.assertTrue({0, 1, 2, 3} <= seen)

    def test_the_most_at_once_can_be_finished_and_no_more_can(self):
        for chance in chances(60):
            heap, things = Heap(some_rows(chance, most=5, many=2)), some_things(chance, most=3)
            places, dealing = most(heap, things)
            begun = list(zip(NAMES, things))
            tale = opened(heap, begun)
            for size in range(len(things) + 1):
                told = {can_finish(tale, names)[0] for names in itertools.combinations([name for name, own in begun], size)}
                self.assertEqual("dealt" in told, size <= len(places))
            names = tuple(NAMES[k] for k in places)
            self.assertEqual(can_finish(tale, names)[0], "dealt")
            for k in range(len(things)):
                if k not in places:
                    more = tuple(NAMES[own] for own in sorted(places + (k,)))
                    self.assertIs(can_finish(tale, more)[0] == "dealt", k in joinable(heap, things, places))

    def test_alike_heaps_finish_alike_and_parted_ones_do_not(self):
        seen = set()
        for chance in chances(150):
            vocabulary = some_vocabulary(chance)
            one = Heap(some_rows(chance, most=4, many=2))
            other = moved(one, *one.rows()[0][:2], chance.choice(("re", "white"))) if one else one
            if is_alike(vocabulary, one, other):
                sheet = plain_of(*[chance.choice(vocabulary) + (1,) for at in range(2) if vocabulary])
                words = [can_finish(opened(heap, [("barn", sheet)]))[0] for heap in (one, other)]
                self.assertEqual(words[0], words[1])
                seen.add("alike")
            else:
                side, sheet, dealing, bar = parting(vocabulary, one, other)
                words = [can_finish(opened(heap, [("barn", sheet)]))[0] for heap in (one, other)]
                self.assertEqual(words, ["dealt", "cases"] if side == 0 else ["cases", "dealt"])
                seen.add(side)
        self.assertEqual(seen, {"alike", 0, 1})

    def test_what_is_built_can_be_built_anew_as_long_as_nothing_is_lost(self):
        for chance in chances(60):
            tale = some_tale(chance, 25)
            for name in things_at(tale):
                if is_finished(tale, name):
                    self.assertEqual(could_anew(tale, name)[0], "dealt")
                apart = tale + ((99, 0, ("apart", name, ())), (99, 1, ("begin", name, ())))
                self.assertEqual(asides(apart), asides(tale))
                self.assertEqual(holding(apart, name), ())
                self.assertEqual(lost(apart), lost(tale))

    def test_a_case_tree_of_what_is_left_may_be_handed_in_again(self):
        """Point 46: a tree that lies deeper than any thing else."""
        row = ((("a", ("r",), 1),), (("b", (), 9),))
        things = [(name, (row,) * 6) for name in NAMES[:4]]
        tale = opened(Heap((("a", "r", 23),)), things)
        word, tree = can_finish(tale)
        self.assertEqual(word, "cases")
        depth, node = 0, tree
        while node[0] == "row":
            depth, node = depth + 1, node[2]
        self.assertEqual(depth, 24)
        self.assertEqual(lets_cases(heap_at(tale), ((row,) * 24), tree), 25)


class Whenever(unittest.TestCase):
    def test_whenever_and_how_often_the_pages_were_told(self):
        """By a book, by a desk, by lines in any order: one TALE, and all is where it is."""
        for chance in chances(40):
            tale = some_tale(chance, 15)
            pages = list(tale) + chance.sample(tale, len(tale) // 2)
            chance.shuffle(pages)
            book, desk = Book(), Desk()
            for page in pages:
                book.tell(page)
                desk.say("tell " + shown_page(page))
            text = "\n".join(shown_page(page) for page in pages)
            self.assertEqual((book.tale(), read_tale(text), read_tale(str(book))), (tale, tale, tale))
            self.assertEqual(desk.say("tale"), shown_tale(tale).replace("\n", " | ") or "-")
            self.assertEqual(str(heap_at(book.tale())), str(heap_at(tale)))

    def test_nothing_hangs_on_what_was_asked_before(self):
        for chance in chances(20):
            tale = some_tale(chance, 20)
            asks = [(ask, hour) for ask in (heap_at, came, lost, lent, things_at) for hour in hours_of(tale)]
            first = [str(ask(tale, hour)) for ask, hour in asks]
            self.assertEqual([str(ask(tale, hour)) for ask, hour in asks[::-1]], first[::-1])
            self.assertIs(is_tale(tale), True)


if __name__ == "__main__":
    unittest.main()
