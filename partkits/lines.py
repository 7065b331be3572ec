"""PART ROWS, SHEETS, PAGES and TALES as texts (point 75)."""

from partkits.deeds import fields_of


def shown_parts(rows):
    """The PART ROWS as one word."""
    if len(rows) == 0:
        return "-"
    return ",".join([f"{form}/{shade}/{many}" for form, shade, many in rows])


def shown_want(want):
    """The WANT as a part of a word."""
    form, shades, many = want
    tints = "*" if len(shades) == 0 else "+".join(shades)
    return f"{form}/{tints}/{many}"


def shown_way(way):
    """The WAY as a part of a word."""
    return "." if len(way) == 0 else ",".join([shown_want(want) for want in way])


def shown_row(row):
    """The ROW as a part of a word."""
    return ";".join([shown_way(way) for way in row])


def shown_sheet(sheet):
    """The SHEET as one word."""
    return "-" if len(sheet) == 0 else "&".join([shown_row(row) for row in sheet])


def shown_field(kind, thing):
    """What a DEED has there, of this kind, as one word."""
    if kind == "rows":
        return shown_parts(thing)
    return shown_sheet(thing) if kind == "sheet" else f"{thing}"


def shown_page(page):
    """The PAGE as a line."""
    hour, number, deed = page
    fields = [shown_field(kind, thing) for kind, thing in zip(fields_of(deed[0]), deed[1:])]
    return " ".join([f"{hour}", f"{number}", deed[0], *fields])


def shown_tale(tale):
    """The TALE as a text, a line for each of its PAGES."""
    return "\n".join([shown_page(page) for page in tale])
