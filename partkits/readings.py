"""Texts read as PART ROWS, SHEETS, PAGES and TALES (points 76 and 77).

What reads a word tells None where the word can't stand there.
"""

from partkits.deeds import fields_of
from partkits.errors import NoText
from partkits.kinds import is_part_row, is_word
from partkits.sheets import is_want

FIGURES = "0123456789"
MOST_FIGURES = 12


def number_in(word):
    """The NUMBER that the word writes."""
    if not 1 <= len(word) <= MOST_FIGURES or not all([sign in FIGURES for sign in word]):
        return None
    return None if len(word) > 1 and word[0] == "0" else int(word)


def all_or_none(things):
    """The things as a tuple; None where one of them is None."""
    return None if None in things else tuple(things)


def part_row_in(text):
    """The (form, shade, many) that the text writes."""
    pieces = text.split("/")
    if len(pieces) != 3:
        return None
    row = (pieces[0], pieces[1], number_in(pieces[2]))
    return row if is_part_row(row) else None


def part_rows_in(word):
    """The PART ROWS that the word writes."""
    return () if word == "-" else all_or_none([part_row_in(text) for text in word.split(",")])


def want_in(text):
    """The WANT that the text writes."""
    pieces = text.split("/")
    if len(pieces) != 3:
        return None
    shades = () if pieces[1] == "*" else tuple(pieces[1].split("+"))
    want = (pieces[0], shades, number_in(pieces[2]))
    return want if is_want(want) else None


def way_in(text):
    """The WAY that the text writes."""
    return () if text == "." else all_or_none([want_in(piece) for piece in text.split(",")])


def row_in(text):
    """The ROW that the text writes."""
    return all_or_none([way_in(piece) for piece in text.split(";")])


def sheet_in(word):
    """The SHEET that the word writes."""
    return () if word == "-" else all_or_none([row_in(text) for text in word.split("&")])


def field_in(kind, word):
    """What the word writes where a thing of this kind has to stand."""
    if kind == "rows":
        return part_rows_in(word)
    if kind == "sheet":
        return sheet_in(word)
    if kind == "word":
        return word if is_word(word) else None
    if kind == "deed":
        return word if fields_of(word) is not None else None
    number = number_in(word)
    return None if kind == "many" and number == 0 else number


def read_word(text, kind):
    """The thing of this kind that the text writes by one word; refused with NoText."""
    words = text.split(" ")
    thing = field_in(kind, words[0])
    if thing is None:
        raise NoText(0, 0)
    if len(words) > 1:
        raise NoText(0, 1)
    return thing


def read_parts(text):
    """The PART ROWS that the text writes; refused with NoText."""
    return read_word(text, "rows")


def read_sheet(text):
    """The SHEET that the text writes; refused with NoText."""
    return read_word(text, "sheet")


def kinds_in(words):
    """The kinds of things that a PAGE of these words has, as far as they tell it."""
    head = ("place", "place", "deed")
    fields = fields_of(words[2]) if len(words) > 2 else None
    return head if fields is None else head + fields


def read_page(text, line=0):
    """The PAGE that the text writes; refused with NoText."""
    words = text.split(" ")
    kinds = kinds_in(words)
    things = [field_in(kind, word) for kind, word in zip(kinds, words)]
    if None in things:
        raise NoText(line, things.index(None))
    if len(words) != len(kinds):
        # the first word that is too many, or where the first one lacks
        raise NoText(line, min([len(words), len(kinds)]))
    return (things[0], things[1], tuple(things[2:]))


def read_tale(text):
    """The TALE of the PAGES that the lines of the text write; refused with NoText."""
    lines = text.split("\n")
    if lines[-1] == "":
        lines = lines[:-1]
    pages = [read_page(own, at) for at, own in enumerate(lines)]
    return tuple(sorted(set(pages)))
