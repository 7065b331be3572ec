"""Looks at any thing: is it a NUMBER, a WORD, PART ROWS (points 2, 3 and 10)."""

LETTERS = "abcdefghijklmnopqrstuvwxyz"
LONGEST_WORD = 8


def is_number(thing):
    """True where thing is a NUMBER."""
    # a truth is an int to Python, but no NUMBER
    return isinstance(thing, int) and not isinstance(thing, bool)


def is_count(thing):
    """True where thing is a NUMBER from 0 on."""
    return is_number(thing) and thing >= 0


def is_many(thing):
    """True where thing is a NUMBER from 1 on."""
    return is_number(thing) and thing >= 1


def is_word(thing):
    """True where thing is a WORD."""
    if not isinstance(thing, str) or not 1 <= len(thing) <= LONGEST_WORD:
        return False
    return all([letter in LETTERS for letter in thing])


def is_shades(thing):
    """True where thing is a rising tuple, perhaps (), of WORDS."""
    if not isinstance(thing, tuple) or not all([is_word(shade) for shade in thing]):
        return False
    return all([ahead < behind for ahead, behind in zip(thing, thing[1:])])


def is_part_row(thing):
    """True where thing is (form, shade, many)."""
    if not isinstance(thing, tuple) or len(thing) != 3:
        return False
    return is_word(thing[0]) and is_word(thing[1]) and is_many(thing[2])


def is_part_rows(thing):
    """True where thing is PART ROWS."""
    return isinstance(thing, tuple) and all([is_part_row(row) for row in thing])
