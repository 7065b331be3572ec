"""HEAPS: how many PARTS of each FORM and SHADE lie there (points 11 to 13)."""

from partkits.errors import NoParts


def added_rows(rows):
    """The PART ROWS that come to the same, rising, each PART once."""
    counts = {}
    for form, shade, many in rows:
        counts[form, shade] = counts.get((form, shade), 0) + many
    return tuple([(form, shade, counts[form, shade]) for form, shade in sorted(counts)])


def rows_above(heap, other):
    """The PART ROWS of what heap has more than other, PART by PART."""
    above = []
    for form, shade, many in heap.rows():
        more = many - other.many(form, shade)
        if more > 0:
            above.append((form, shade, more))
    return tuple(above)


class Heap:
    """So many of each PART as its PART ROWS come to; it never changes."""

    def __init__(self, rows=None):
        self.held = added_rows(() if rows is None else rows)

    def rows(self):
        """The PART ROWS, rising, each PART once."""
        # made anew, for what is told is the asker's own
        return tuple([(form, shade, many) for form, shade, many in self.held])

    def many(self, form, shade=None):
        """How many there are of this PART, or of all of this FORM."""
        return sum([many for own, tint, many in self.held if own == form and (shade is None or tint == shade)])

    def forms(self):
        """The FORMS, a rising tuple."""
        return tuple(sorted({form for form, shade, many in self.held}))

    def plus(self, other):
        """The HEAP of both together."""
        return Heap(self.held + other.held)

    def less(self, other):
        """The HEAP that is left where other is taken out; refused with NoParts."""
        lacking = rows_above(other, self)
        if lacking != ():
            raise NoParts(Heap(lacking))
        return Heap(rows_above(self, other))

    def holds(self, other):
        """True where there are of each PART as many as other has, or more."""
        return rows_above(other, self) == ()

    def __eq__(self, other):
        return isinstance(other, Heap) and self.held == other.held

    def __len__(self):
        return len(self.held)

    def __bool__(self):
        return len(self.held) > 0

    def __str__(self):
        if len(self.held) == 0:
            return "-"
        return " ".join([f"{form}/{shade}:{many}" for form, shade, many in self.held])

    def __repr__(self):
        return f"Heap({str(self)})"
