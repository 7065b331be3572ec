"""The DEEDS: what each has behind its word, by kinds (point 60).

The kinds: "rows" are PART ROWS, "sheet" a SHEET, "word" a WORD, "place" a NUMBER from 0 on, "many" one from 1 on.
"""

FIELDS = {
    "open": ("rows", "rows"),
    "begin": ("word", "sheet"),
    "lay": ("word", "place", "place", "place", "word", "many"),
    "off": ("word", "place", "place", "place", "word", "many"),
    "apart": ("word", "rows"),
    "lend": ("word", "rows"),
    "bring": ("word", "rows"),
}


def fields_of(word):
    """The kinds of what stands behind this text in a DEED; None where it is no DEED's word."""
    return FIELDS.get(word)
