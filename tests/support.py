"""What several tests need: right and wrong things of each kind, and slow, plain ways to the same answers."""

import itertools
import random
import re

from partkits.book import Book
from partkits.heaps import Heap

LARGEST = 10 ** 9
LONGEST_NUMBER = 10 ** 200 - 1
NUMBERS = (0, 1, -1, 2, 7, -7, LARGEST, -LARGEST, 10 ** 199, LONGEST_NUMBER, -LONGEST_NUMBER)
MANYS = (1, 2, 7, LARGEST, LARGEST + 1, 10 ** 199, LONGEST_NUMBER)
WORDS = ("a", "z", "ab", "abc", "red", "brick", "abcdefg", "abcdefgh", "zzzzzzzz")

NO_TEXTS = (None, True, False, 0, 1, -1, LONGEST_NUMBER, (), [], ("red",), ["red"], ("r", "e", "d"), Heap(), Book())
NO_WORDS = NO_TEXTS + (
    "", " ", "abcdefghi", "abcdefghijklmnop", "a" * 4000, "Red", "reD", "RED", "A", "re d", " red", "red ",
    "red1", "1", "-", "re-d", "re/d", "re_d", "red\n", "\n", "`", "{", "~", "@", "[")
NO_NUMBERS = (None, True, False, "", "1", "red", (), [], (1,), [1], ((1,),), Heap(), Book())
NO_MANYS = NO_NUMBERS + (0, -1, -LARGEST, -LONGEST_NUMBER)
NO_TUPLES = (None, True, False, 0, 1, -1, LONGEST_NUMBER, "", "a", "abc", "brick", "brick/red:3", [], [()], [1, 2, 3],
             Heap(), Heap((("brick", "red", 3),)), Book())


def deep(levels, inner, as_list=False):
    """inner in so many tuples or lists within one another."""
    for at in range(levels):
        inner = [inner] if as_list else (inner,)
    return inner


def replaced(thing, at, new):
    """The tuple with another thing at a place."""
    return thing[:at] + (new,) + thing[at + 1:]


def broken_inside(thing, at, wrongs):
    """The tuple with each of the wrong things at a place."""
    return [replaced(thing, at, wrong) for wrong in wrongs]


def broken_everywhere(thing, broken):
    """The tuple with each of its things broken in each way, and with each kind of no tuple in its place."""
    told = []
    for at, inner in enumerate(thing):
        told += broken_inside(thing, at, broken(inner))
    return told


def broken_part_row(row):
    """Things that are no part row."""
    told = list(NO_TUPLES) + [list(row), (), row[:1], row[:2], row[1:], row + (1,), row + ((),), (row,), row + row]
    told += broken_inside(row, 0, NO_WORDS) + broken_inside(row, 1, NO_WORDS) + broken_inside(row, 2, NO_MANYS)
    return told + [(row[2], row[0], row[1]), (row[0], row[2], row[1])]


def broken_part_rows(rows):
    """Things that are no PART ROWS."""
    told = list(NO_TUPLES) + [list(rows), (rows,), deep(19, rows), rows + ((),)]
    return told + list(rows) + broken_everywhere(rows, broken_part_row)


def broken_shades(shades):
    """Things that are no rising tuple of SHADES."""
    told = [thing for thing in NO_TUPLES] + [list(shades), deep(1, shades), deep(18, shades)]
    for at in range(len(shades)):
        told += broken_inside(shades, at, NO_WORDS)
        told.append(shades[:at + 1] + shades[at:])
    told += [shades + (wrong,) for wrong in NO_WORDS]
    told += [turned for turned in itertools.permutations(shades) if turned != shades]
    return told


def broken_want(want):
    """Things that are no WANT."""
    told = list(NO_TUPLES) + [list(want), (), want[:1], want[:2], want[1:], want + (1,), want + ((),), (want,)]
    told += broken_inside(want, 0, NO_WORDS) + broken_inside(want, 2, NO_MANYS)
    told += broken_inside(want, 1, broken_shades(want[1]))
    return told + [(want[0], want[2]), (want[0], want[2], want[1])]


def broken_way(way):
    """Things that are no WAY."""
    told = list(NO_TUPLES) + [list(way), (way,), deep(17, way), way + ((),)]
    return told + list(way) + broken_everywhere(way, broken_want)


def broken_row(row):
    """Things that are no ROW."""
    told = list(NO_TUPLES) + [list(row), (), (row,), row + (((),),)]
    return told + [way for way in row if way] + broken_everywhere(row, broken_way)


def broken_sheet(sheet):
    """Things that are no SHEET."""
    told = list(NO_TUPLES) + [list(sheet), (sheet,), deep(15, sheet), sheet + ((),), ((),)]
    return told + list(sheet) + broken_everywhere(sheet, broken_row)


def plain_number(thing):
    """NUMBER, told in another way than the program does."""
    return type(thing) is int


def plain_word(thing):
    """WORD, told in another way than the program does."""
    return type(thing) is str and re.fullmatch("[a-z]{1,8}", thing) is not None


def tuples_within(thing):
    """All tuples and lists of a thing that have something in them, the thing itself among them."""
    if not isinstance(thing, (tuple, list)):
        return []
    told = [thing] if thing else []
    for inner in thing:
        told += tuples_within(inner)
    return told


def shares_a_tuple(one, other):
    """Whether the same object, a tuple or a list, lies in both."""
    known = {id(inner) for inner in tuples_within(one)}
    return any(id(inner) in known for inner in tuples_within(other))


def all_just_tuples(thing):
    """Whether every tuple within is of just that kind, and nothing is a list."""
    return all(type(inner) is tuple for inner in tuples_within(thing))


class OddTuple(tuple):
    """A tuple of another kind."""


def made_odd(thing):
    """The same thing of tuples of another kind throughout."""
    return OddTuple(made_odd(inner) for inner in thing) if isinstance(thing, tuple) else thing


def counted(rows):
    """A dict from PART to many."""
    told = {}
    for form, shade, many in rows:
        told[(form, shade)] = told.get((form, shade), 0) + many
    return told


def serves_some(counts, wants):
    """Whether PARTS so counted can be given to the WANTS, tried PART by PART."""
    if not wants:
        return True
    form, shades, many = wants[0]
    rest = wants[1:] if many == 1 else ((form, shades, many - 1),) + wants[1:]
    for part in sorted(counts):
        if part[0] == form and (not shades or part[1] in shades) and counts[part]:
            if serves_some({**counts, part: counts[part] - 1}, rest):
                return True
    return False


def builds(heap, sheet):
    """Whether the HEAP BUILDS the SHEET, every CHOICE tried."""
    counts = counted(heap.rows())
    for ways in itertools.product(*sheet):
        if serves_some(counts, tuple(want for way in ways for want in way)):
            return True
    return False


def some_rows(chance, most=6, many=3):
    """PART ROWS of few FORMS and SHADES, some of them alike."""
    return tuple((chance.choice(("a", "ab", "b")), chance.choice(("red", "re", "blue")), chance.randint(1, many))
                 for at in range(chance.randint(0, most)))


def some_want(chance, many=2):
    """A WANT of few FORMS and SHADES."""
    shades = chance.sample(("red", "re", "blue"), chance.randint(0, 2))
    return (chance.choice(("a", "ab")), tuple(sorted(shades)), chance.randint(1, many))


def some_sheet(chance, rows=3, ways=2, wants=3):
    """A SHEET of few ROWS."""
    return tuple(tuple(tuple(some_want(chance) for want in range(chance.randint(0, wants)))
                       for way in range(chance.randint(1, ways)))
                 for row in range(chance.randint(0, rows)))


def chances(many):
    """So many sources of chance, the same each time."""
    return [random.Random(seed) for seed in range(many)]
