"""MOST PAPERS: what shows how many THINGS can be built AT ONCE (point 42)."""

from partkits.atonce import most_found


def most_paper(heap, things):
    """(places, dealing, tree), a MOST PAPER."""
    return most_found(heap, things)
