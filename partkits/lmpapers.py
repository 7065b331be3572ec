"""SPAN PAPERS: what shows how many of a PART are given at least and at most (point 30)."""

from partkits.dealing import deal
from partkits.leastmost import least_most
from partkits.places import lets_shade
from partkits.spans import heap_with


def span_paper(heap, wants, form, shade):
    """(fewest, greatest, bar), a SPAN PAPER; refused with NoDealing."""
    least, most = least_most(heap, wants, form, shade)
    fewest = deal(heap_with(heap, form, shade, least), wants)[1]
    greatest = given_more(wants, fewest, form, shade, most - least)
    bar = () if least == 0 else deal(heap_with(heap, form, shade, least - 1), wants)[1]
    return (fewest, greatest, bar)


def given_more(wants, given, form, shade, more):
    """The GIVEN with so many more of this PART, in the place of others of its FORM."""
    told = []
    for (own, shades, many), gift in zip(wants, given):
        spare = more if own == form and lets_shade(shades, shade) else 0
        exchanged, got = gift_exchanged(gift, shade, spare)
        told.append(exchanged)
        more -= got
    return tuple(told)


def gift_exchanged(gift, shade, spare):
    """The GIFT with as many of the SHADE as can be, at most spare, in the place of others, and how many these are."""
    counts = {shade: 0}
    got = 0
    for own, many in gift:
        gone = 0 if own == shade else min([many, spare - got])
        counts[own] = counts.get(own, 0) + many - gone
        got += gone
    counts[shade] += got
    return (tuple([(own, counts[own]) for own in sorted(counts) if counts[own] > 0]), got)
