"""What tests of THINGS AT ONCE need: THINGS of every sort, and slow, plain ways to the same answers."""

import itertools

from partkits.heaps import Heap
from tests.support import LARGEST, builds, some_sheet

RED, BLUE, ANY = ("brick", ("red",), 1), ("brick", ("blue",), 1), ("plate", (), 1)
# 0 has a ROW of two WAYS and one of one, 1 is PLAIN, 2 has a ROW of one WAY and one of three, 3 is the SHEET ()
THINGS = ((((RED,), (BLUE,)), ((ANY,),)), (((RED, BLUE),),), (((ANY,),), ((RED,), (), (ANY,))), ())
HEAP = Heap((("brick", "blue", 1), ("brick", "red", 1), ("plate", "x", 1)))


def one_row(*ways):
    """A SHEET of one ROW of these WAYS."""
    return (tuple(ways),)


# 0 wants least, and bars both others, of which each wants more
LITTLE = (one_row((("a", ("r",), 1), ("a", ("s",), 1))), one_row((("a", ("r",), 1), ("b", (), 9))),
          one_row((("a", ("s",), 1), ("c", (), 9))))
LITTLE_HEAP = Heap((("a", "r", 1), ("a", "s", 1), ("b", "x", 9), ("c", "x", 9)))

# six THINGS of two WAYS, two of one: 64 CHOICES, 48 WANTS by each
WAY = (("brick", ("red", "z"), 1), ANY, ("tile", ("a", "b", "c", "d", "e", "f"), 2), ("tile", (), 1), ("wheel", (), 4))
MANY_CHOICES = ((one_row((BLUE,) + WAY, (("brick", ("lime",), 1),) + WAY),) * 6 + (one_row((RED,) + WAY),) * 2)

# ten ROWS in all, three of them of several WAYS
MANY_ROWS = (one_row((RED,)) * 3, one_row((RED,), (BLUE,)) + one_row(()) * 2,
             one_row((ANY,), (RED,)) + one_row((BLUE,), ()) + one_row((BLUE,)), one_row(()))

LARGE = (one_row((("a", ("r",), LARGEST),), (("a", ("s",), LARGEST),)), one_row((("a", (), LARGEST),)),
         one_row((("a", ("r",), 1),)))


def many_choices_heap(blue, lime, things=8):
    """A HEAP that has enough for so many of these THINGS, but so many blue and lime bricks."""
    rows = (("brick", "red", things + 2), ("plate", "y", things), ("tile", "c", 2 * things), ("tile", "q", things),
            ("wheel", "x", 4 * things), ("brick", "blue", blue), ("brick", "lime", lime))
    return Heap(tuple(row for row in rows if row[2]))


def plain_sheet(things, places):
    """The ROWS of these THINGS, one thing's behind another's."""
    told = ()
    for k in places:
        told += things[k]
    return told


def all_places(things):
    """All rising tuples of places of THINGS, those of many first."""
    for size in range(len(things), -1, -1):
        yield from itertools.combinations(range(len(things)), size)


def at_once(heap, things, places):
    """Whether these THINGS are built AT ONCE, every CHOICE tried."""
    return builds(heap, plain_sheet(things, places))


def greatest(heap, things):
    """How many THINGS can be built AT ONCE, all of them tried."""
    return next(len(places) for places in all_places(things) if at_once(heap, things, places))


def some_things(chance, most=4, rows=2):
    """THINGS of few ROWS, some of them alike."""
    things = tuple(some_sheet(chance, rows=rows, ways=2, wants=2) for at in range(chance.randint(0, most)))
    return things + things[:chance.randint(0, 1)] if len(things) < most else things
