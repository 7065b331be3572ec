"""What tests of PAGES and TALES need: one of each DEED, wrong ones, and TALES of few names."""

from tests.support import (NO_NUMBERS, NO_TUPLES, NO_WORDS, NO_MANYS, broken_inside, broken_part_rows, broken_sheet, deep,
                           replaced)

ROWS = (("brick", "red", 3), ("plate", "blue", 12), ("brick", "red", 1))
LOST = (("brick", "red", 1),)
BARN = (((("brick", ("blue", "red"), 4), ("plate", (), 2)), (("tile", (), 1),)), ((("wheel", (), 4),),), ((), ()))
DEEDS = (("open", ROWS, LOST), ("open", ROWS, ()), ("open", (), ()), ("begin", "barn", BARN), ("begin", "cart", ()),
         ("lay", "barn", 0, 1, 0, "red", 2), ("off", "barn", 0, 1, 0, "red", 1), ("apart", "barn", LOST),
         ("apart", "barn", ()), ("lend", "ann", ROWS), ("lend", "ann", ()), ("bring", "ann", LOST), ("bring", "bob", ()))
NO_COUNTS = NO_NUMBERS + (-1, -7, -10 ** 9)
KINDS = {"open": "pp", "begin": "ws", "lay": "wcccwm", "off": "wcccwm", "apart": "wp", "lend": "wp", "bring": "wp"}
# things of every kind, none of which is a DEED, a PAGE or a TALE but ()
ODD = NO_TUPLES + ((1,), ("open",), ("a", "b", 1), ((),), (((),),), deep(20, 1), deep(20, "open", True), (1,) * 4999,
                   ("red",), ROWS, BARN, LOST[0], deep(5000, ()))


def broken_field(kind, thing):
    """Things that can't stand in a DEED in the place of this one."""
    if kind == "p":
        return broken_part_rows(thing)
    if kind == "s":
        return broken_sheet(thing)
    return {"w": NO_WORDS, "c": NO_COUNTS, "m": NO_MANYS}[kind]


def broken_deed(deed):
    """Things that are no DEED."""
    told = list(ODD) + [(), list(deed), (deed,), deed[:-1], deed[1:], deed + (1,), deed + ((),), deed[:1], deed + deed,
                        deed[::-1], deep(18, deed)]
    told += broken_inside(deed, 0, NO_WORDS + ("opens", "ope", "Open", "open ", " open", "tell", "take", "deed"))
    for at, kind in enumerate(KINDS[deed[0]], 1):
        told += broken_inside(deed, at, broken_field(kind, deed[at]))
    return told


def broken_page(page):
    """Things that are no PAGE."""
    told = list(ODD) + [(), list(page), (page,), page[:-1], page[1:], page + (1,), page + ((),), page[:1], page + page,
                        page[::-1], page[:2] + page[2], page[2], deep(17, page)]
    for at in (0, 1):
        told += broken_inside(page, at, NO_COUNTS)
    return told + broken_inside(page, 2, broken_deed(page[2]))


def pages_of(*deeds, hour=0):
    """PAGES of these DEEDS, one behind another, of one hour each."""
    return tuple((hour + at, at % 3, deed) for at, deed in enumerate(deeds))


def broken_tale(tale):
    """Things that are no TALE."""
    told = [thing for thing in ODD] + [list(tale), (tale,), tale[::-1], tale + ((),), tale + tale[-1:], tale[:1] + tale]
    told += [tale[0], tale[:1] + tale[2:] + tale[1:2], tale[:2] + tale[1:], deep(16, tale)]
    for at, page in enumerate(tale):
        told += broken_inside(tale, at, [list(page), page[:2], replaced(page, 0, True), replaced(page, 1, -1),
                                         replaced(page, 2, list(page[2])), replaced(page, 2, page[2][:1]), None, 0])
    return told
