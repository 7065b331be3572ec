"""PART ROWS and NAMED SHEETS in several orders (points 17 and 18)."""

from partkits.sheets import copied_sheet


def sorted_parts(rows, by="form", turned=False):
    """The PART ROWS sorted by "form", "shade" or "many"; the other way about where turned is True."""
    copied = [(form, shade, many) for form, shade, many in rows]
    told = sorted(copied, key=lambda row: part_key(row, by))
    # rows of the same key are alike throughout, so turning the whole is enough
    return tuple(told[::-1] if turned is True else told)


def part_key(row, by):
    """The things of a part row in the order in which they count."""
    form, shade, many = row
    if by == "shade":
        return (shade, form, many)
    if by == "many":
        return (many, form, shade)
    return (form, shade, many)


def sorted_sheets(named, by="name", turned=False):
    """The NAMED SHEETS sorted by "name", "rows", "wants" or "parts"; the greatest first where turned is True."""
    copied = [(name, copied_sheet(sheet)) for name, sheet in named]
    told = sorted(copied, key=lambda pair: pair[0])
    if by == "name":
        return tuple(told[::-1] if turned is True else told)
    # sorted again, alike ones keep their order by name; a size below nought turns the sizes alone
    sign = -1 if turned is True else 1
    return tuple(sorted(told, key=lambda pair: sign * size_of(pair[1], by)))


def size_of(sheet, by):
    """The NUMBER by which a SHEET is sorted by "rows", "wants" or "parts"."""
    if by == "rows":
        return len(sheet)
    if by == "wants":
        return sum([len(way) for row in sheet for way in row])
    return fewest_parts(sheet)


def fewest_parts(sheet):
    """The fewest PARTS that a CHOICE of the SHEET wants."""
    # ROWS are chosen one by one, so the least WAY of each makes the least CHOICE
    return sum([min([parts_of(way) for way in row]) for row in sheet])


def parts_of(way):
    """How many PARTS the WANTS of the WAY want in all."""
    return sum([many for form, shades, many in way])
