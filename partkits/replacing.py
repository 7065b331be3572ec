"""A tuple with another thing at one place."""


def replaced(row, at, new):
    """The tuple with new at this place, and all else as it is."""
    return row[:at] + (new,) + row[at + 1:]
