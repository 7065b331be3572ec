"""PAGES and TALES: looks at any thing, a PAGE more, a PAGE less, the PAGES up to an hour (points 60 and 61)."""

from partkits.copies import copied
from partkits.deeds import fields_of
from partkits.kinds import is_count, is_many, is_part_rows, is_word
from partkits.sheets import is_sheet


def is_field(kind, thing):
    """True where thing is of the kind that a DEED has there."""
    if kind == "rows":
        return is_part_rows(thing)
    if kind == "sheet":
        return is_sheet(thing)
    if kind == "word":
        return is_word(thing)
    return is_count(thing) if kind == "place" else is_many(thing)


def is_deed(thing):
    """True where thing is a DEED."""
    if not isinstance(thing, tuple) or len(thing) == 0 or not isinstance(thing[0], str):
        return False
    fields = fields_of(thing[0])
    if fields is None or len(thing) != len(fields) + 1:
        return False
    return all([is_field(kind, own) for kind, own in zip(fields, thing[1:])])


def is_page(thing):
    """True where thing is a PAGE."""
    if not isinstance(thing, tuple) or len(thing) != 3:
        return False
    return is_count(thing[0]) and is_count(thing[1]) and is_deed(thing[2])


def is_tale(thing):
    """True where thing is a TALE."""
    if not isinstance(thing, tuple) or not all([is_page(page) for page in thing]):
        return False
    return all([ahead < behind for ahead, behind in zip(thing, thing[1:])])


def with_page(tale, page):
    """The TALE that has this PAGE, too."""
    return copied(tale if page in tale else tuple(sorted([*tale, page])))


def without_page(tale, page):
    """The TALE that hasn't this PAGE."""
    return tuple([copied(own) for own in tale if own != page])


def until(tale, hour=None):
    """The TALE of the PAGES up to this hour, those of this hour among them; of None all."""
    return tuple([copied(page) for page in tale if hour is None or page[0] <= hour])
