"""SHEETS: what a thing wants, this or that, of a shade or of any (points 3, 14 to 16)."""

from partkits.kinds import is_many, is_shades, is_word


def is_want(thing):
    """True where thing is a WANT."""
    if not isinstance(thing, tuple) or len(thing) != 3:
        return False
    return is_word(thing[0]) and is_shades(thing[1]) and is_many(thing[2])


def is_way(thing):
    """True where thing is a WAY."""
    return isinstance(thing, tuple) and all([is_want(want) for want in thing])


def is_row(thing):
    """True where thing is a ROW."""
    return isinstance(thing, tuple) and len(thing) > 0 and all([is_way(way) for way in thing])


def is_sheet(thing):
    """True where thing is a SHEET."""
    return isinstance(thing, tuple) and all([is_row(row) for row in thing])


def is_plain(sheet):
    """True where each ROW of the SHEET has one WAY."""
    return all([len(row) == 1 for row in sheet])


def choices(sheet):
    """All CHOICES of the SHEET, rising."""
    told = [()]
    for row in sheet:
        told = [choice + (place,) for choice in told for place in range(len(row))]
    return tuple(told)


def wants_of(sheet, choice=None):
    """The WANTS of the SHEET by the CHOICE; of a PLAIN one without a CHOICE its WANTS."""
    places = (0,) * len(sheet) if choice is None else choice
    return tuple([want for row, place in zip(sheet, places) for want in copied_way(row[place])])


def joined(one, other):
    """The SHEET with the ROWS of the one and behind them those of the other."""
    return copied_sheet(one) + copied_sheet(other)


def tidy(sheet):
    """The TIDY SHEET: the same ROWS and WAYS, the WANTS of each WAY rising, alike ones added."""
    return tuple([tuple([tidy_way(way) for way in row]) for row in sheet])


def tidy_way(way):
    """The WAY with its WANTS rising, the manys of those of like FORM and shades added."""
    counts = {}
    for form, shades, many in copied_way(way):
        counts[form, shades] = counts.get((form, shades), 0) + many
    return tuple([(form, shades, counts[form, shades]) for form, shades in sorted(counts)])


def copied_sheet(sheet):
    """The same SHEET, made anew throughout."""
    return tuple([tuple([copied_way(way) for way in row]) for row in sheet])


def copied_way(way):
    """The same WAY, made anew throughout."""
    # by way of lists, as tuple(shades) alone would be the very tuple that was handed in
    return tuple([(form, tuple([shade for shade in shades]), many) for form, shades, many in way])
