"""What tests of TALES need: PAGES gone through by hand, TALES of every sort, and one PAGE for each reason to be ASIDE."""

from collections import Counter

from partkits.heaps import Heap
from tests.page_support import pages_of

NAMES = ("barn", "cart", "mill")
BUILT = (((("brick", ("blue", "red"), 2), ("plate", (), 1)), (("brick", (), 1),)), ((("plate", ("red",), 1),), ()),
         ((("brick", ("red",), 1),),))
SHEETS = (BUILT, BUILT[:1], BUILT[1:], (), (((),),), (((("brick", (), 3), ("plate", ("blue",), 1)),),),
          (((("brick", ("blue",), 2), ("brick", ("blue",), 1)), (("brick", ("red",), 2),)),))


class Story:
    """Where all is behind some PAGES, PART by PART."""

    def __init__(self, tale, hour=None):
        self.heap, self.came, self.lost, self.lent, self.things = Counter(), Counter(), Counter(), {}, {}
        self.aside = []
        for page in tale:
            if hour is None or page[0] <= hour:
                if not getattr(self, "on_" + page[2][0])(*page[2][1:]):
                    self.aside.append(page)

    def on_open(self, whole, lacking):
        fresh = counts(whole)
        fresh.subtract(counts(lacking))
        if any(many < 0 for many in fresh.values()):
            return False
        self.heap += fresh
        self.came += fresh
        return True

    def on_begin(self, name, sheet):
        if name in self.things:
            return False
        self.things[name] = (sheet, Counter())
        return True

    def on_lay(self, name, row, way, want, shade, many):
        try:
            sheet, held = self.things[name]
            form, shades, wanted = sheet[row][way][want]
        except LookupError:
            return False
        others = [key for key, own in held.items() if own and key[0] == row and key[1] != way]
        there = sum(own for key, own in held.items() if key[:3] == (row, way, want))
        if (shades and shade not in shades) or others or there + many > wanted or self.heap[form, shade] < many:
            return False
        self.heap[form, shade] -= many
        held[row, way, want, shade] += many
        return True

    def on_off(self, name, row, way, want, shade, many):
        if name not in self.things or self.things[name][1][row, way, want, shade] < many:
            return False
        sheet, held = self.things[name]
        held[row, way, want, shade] -= many
        self.heap[sheet[row][way][want][0], shade] += many
        return True

    def on_apart(self, name, lost):
        if name not in self.things:
            return False
        parts, gone = self.held(name), counts(lost)
        if gone - parts:
            return False
        del self.things[name]
        self.heap += parts - gone
        self.lost += gone
        return True

    def on_lend(self, who, rows):
        if counts(rows) - self.heap:
            return False
        self.heap -= counts(rows)
        self.lent[who] = self.lent.get(who, Counter()) + counts(rows)
        return True

    def on_bring(self, who, rows):
        if counts(rows) - self.lent.get(who, Counter()):
            return False
        self.lent[who] = self.lent.get(who, Counter()) - counts(rows)
        self.heap += counts(rows)
        return True

    def held(self, name):
        """All PARTS that a thing holds."""
        sheet, held = self.things[name]
        told = Counter()
        for (row, way, want, shade), many in held.items():
            told[sheet[row][way][want][0], shade] += many
        return +told

    def holding(self, name):
        return tuple(sorted(key + (many,) for key, many in self.things[name][1].items() if many))

    def left(self, name):
        """What is LEFT of a thing, ROW by ROW."""
        sheet, held = self.things[name]
        told = []
        for at, row in enumerate(sheet):
            ways = {key[1] for key, many in held.items() if many and key[0] == at}
            if not ways:
                told.append(row)
                continue
            (way,) = ways
            rest = []
            for want, (form, shades, many) in enumerate(row[way]):
                lacks = many - sum(own for key, own in held.items() if key[:3] == (at, way, want))
                rest += [(form, shades, lacks)] if lacks else []
            told.append((tuple(rest),))
        return tuple(told)


def counts(rows):
    """A Counter of PART ROWS."""
    told = Counter()
    for form, shade, many in rows:
        told[form, shade] += many
    return told


def heap_from(counter):
    """The HEAP of a Counter."""
    return Heap(tuple((form, shade, many) for (form, shade), many in counter.items() if many))


def rows_from(counter):
    """The PART ROWS of a Counter, rising."""
    return tuple(sorted((form, shade, many) for (form, shade), many in counter.items() if many))


def some_part_rows(chance, most=3, many=3):
    """PART ROWS of few PARTS."""
    return tuple((chance.choice(("brick", "brick", "plate")), chance.choice(("blue", "red", "red")),
                  chance.randint(1, many)) for at in range(chance.randint(0, most)))


def some_deed(chance):
    """A DEED of few names and PARTS."""
    name, who = chance.choice(NAMES[:2]), chance.choice(("ann", "bob"))
    word = chance.choice(("open", "open", "begin") + ("lay",) * 10 + ("off", "apart", "lend", "bring"))
    if word == "open":
        return (word, some_part_rows(chance, 4, 4), some_part_rows(chance, 1, 1))
    if word == "begin":
        return (word, name, chance.choice(SHEETS[:1] * 3 + SHEETS))
    if word in ("lay", "off"):
        return (word, name, chance.choice((0, 0, 1, 2)), chance.choice((0, 0, 0, 0, 1)), chance.choice((0, 0, 1)),
                chance.choice(("blue", "red")), chance.choice((1, 1, 1, 2)))
    if word == "apart":
        return (word, name, some_part_rows(chance, 1, 1))
    return (word, who, some_part_rows(chance, 2, 2))


def some_tale(chance, most=40):
    """A TALE of few names and hours; most begin with PARTS and a thing, so that more can be."""
    pages = {(chance.randint(0, 12), chance.randint(0, 2), some_deed(chance)) for at in range(chance.randint(0, most - 2))}
    whole = (("brick", "blue", 3), ("brick", "red", 3), ("plate", "blue", 2), ("plate", "red", 2))
    ahead = ((0, 0, ("begin", "barn", BUILT)), (0, 0, ("open", whole, ())))
    return tuple(sorted(pages | set(ahead[:chance.choice((0, 1, 2, 2, 2))])))


def hours_of(tale):
    """0, each hour, one less, one more, one beyond all, and the end."""
    told = {0} | {page[0] + more for page in tale for more in (-1, 0, 1) if page[0] + more >= 0}
    return sorted(told) + [10 ** 30, None]


# what is there ahead of a PAGE that CAN'T BE: BUILT begun as barn, with some laid, and some lent
GROUND = pages_of(("open", (("brick", "red", 4), ("brick", "blue", 2), ("plate", "red", 1), ("plate", "blue", 1)), ()),
                  ("begin", "barn", BUILT), ("begin", "cart", ()), ("lay", "barn", 0, 0, 0, "red", 1),
                  ("lend", "ann", (("brick", "red", 1),)))
CANT_BE = (
    ("open", (("brick", "red", 1),), (("brick", "red", 2),)),
    ("open", (), (("brick", "red", 1),)),
    ("open", (("brick", "red", 9),), (("brick", "blue", 1),)),
    ("open", (("brick", "red", 1), ("brick", "red", 1)), (("brick", "red", 1), ("brick", "red", 2))),
    ("begin", "barn", ()), ("begin", "barn", BUILT), ("begin", "cart", BUILT),
    ("lay", "mill", 0, 0, 0, "red", 1),
    ("lay", "cart", 0, 0, 0, "red", 1), ("lay", "barn", 3, 0, 0, "red", 1),
    ("lay", "barn", 2, 1, 0, "red", 1), ("lay", "barn", 2, 0, 1, "red", 1), ("lay", "barn", 1, 1, 0, "red", 1),
    ("lay", "barn", 2, 0, 0, "blue", 1), ("lay", "barn", 0, 0, 0, "lime", 1),
    ("lay", "barn", 0, 1, 0, "red", 1), ("lay", "barn", 0, 1, 0, "blue", 1),
    ("lay", "barn", 0, 0, 0, "red", 2), ("lay", "barn", 0, 0, 0, "blue", 2), ("lay", "barn", 2, 0, 0, "red", 2),
    ("lay", "barn", 0, 0, 1, "lime", 1),
    ("off", "mill", 0, 0, 0, "red", 1), ("off", "cart", 0, 0, 0, "red", 1), ("off", "barn", 9, 0, 0, "red", 1),
    ("off", "barn", 0, 9, 0, "red", 1), ("off", "barn", 0, 0, 9, "red", 1), ("off", "barn", 0, 0, 0, "blue", 1),
    ("off", "barn", 0, 0, 0, "red", 2), ("off", "barn", 0, 0, 1, "red", 1), ("off", "barn", 0, 1, 0, "red", 1),
    ("apart", "mill", ()), ("apart", "barn", (("brick", "red", 2),)), ("apart", "barn", (("brick", "blue", 1),)),
    ("apart", "barn", (("brick", "red", 1), ("brick", "red", 1))), ("apart", "cart", (("brick", "red", 1),)),
    ("lend", "ann", (("brick", "red", 3),)), ("lend", "bob", (("plate", "lime", 1),)),
    ("lend", "bob", (("brick", "blue", 1), ("brick", "blue", 2))), ("lend", "bob", (("brick", "blue", 1), ("tile", "x", 1))),
    ("bring", "ann", (("brick", "red", 2),)), ("bring", "bob", (("brick", "red", 1),)),
    ("bring", "ann", (("brick", "blue", 1),)), ("bring", "ann", (("brick", "red", 1), ("brick", "red", 1))),
)
# almost the same ones, that can be
CAN_BE = (
    ("open", (("brick", "red", 2),), (("brick", "red", 2),)), ("open", (), ()),
    ("open", (("brick", "red", 1), ("brick", "red", 1)), (("brick", "red", 1), ("brick", "red", 1))),
    ("begin", "mill", ()), ("begin", "mill", BUILT),
    ("lay", "barn", 0, 0, 0, "red", 1), ("lay", "barn", 0, 0, 0, "blue", 1), ("lay", "barn", 0, 0, 1, "blue", 1),
    ("lay", "barn", 1, 0, 0, "red", 1), ("lay", "barn", 2, 0, 0, "red", 1), ("lay", "barn", 0, 0, 1, "red", 1),
    ("off", "barn", 0, 0, 0, "red", 1), ("apart", "barn", ()), ("apart", "barn", (("brick", "red", 1),)),
    ("apart", "cart", ()), ("lend", "ann", (("brick", "red", 2),)), ("lend", "bob", (("brick", "blue", 1),) * 2),
    ("lend", "bob", ()), ("bring", "ann", (("brick", "red", 1),)), ("bring", "ann", ()), ("bring", "zoe", ()),
)
