"""A least and a most for each of the KITS, as a FEWEST TREE of F is gone through with (point 51)."""

from partkits.replacing import replaced


def span_first(kits, fewest):
    """(leasts, mosts) at first, for a tree of this F."""
    return ((0,) * len(kits), (fewest - 1,) * len(kits))


def span_low(span, k, a):
    """(leasts, mosts) where the most of k is a."""
    leasts, mosts = span
    return (leasts, replaced(mosts, k, a))


def span_high(span, k, a, fewest):
    """(leasts, mosts) where the least of k is a + 1, and no most is above F - 1 less the leasts of all others."""
    leasts = replaced(span[0], k, a + 1)
    room = fewest - 1 - sum(leasts)
    return (leasts, tuple([min([most, room + least]) for least, most in zip(leasts, span[1])]))
