"""What tests of GIVENS and papers need: all GIVENS of small WANTS, wrong ones, and a close look at refusals."""

import itertools

from partkits.errors import (HeapError, KitError, NoBack, NoDealing, NoKits, NoLine, NoPage, NoPaper, NoParts, NoText,
                             NoThing, PageError, PaperError, TextError)
from partkits.heaps import Heap
from tests.support import NO_MANYS, NO_TUPLES, NO_WORDS, deep, replaced

OTHER_FAMILIES = (HeapError, PageError, TextError)
FAMILIES = {PaperError: (NoPaper, NoDealing, NoKits), HeapError: (NoParts, NoThing), PageError: (NoPage, NoBack),
            TextError: (NoText, NoLine)}


def all_gifts(shades, many):
    """All rising tuples of (shade, many) of these SHADES that come to many."""
    if not shades:
        return [()] if many == 0 else []
    told = []
    for first in range(many + 1):
        ahead = ((shades[0], first),) if first else ()
        told += [ahead + rest for rest in all_gifts(shades[1:], many - first)]
    return told


def all_givens(wants, shades):
    """All GIVENS of the WANTS, those of any SHADE of these shades."""
    return itertools.product(*[all_gifts(own or shades, many) for form, own, many in wants])


def all_changed_givens(wants, shades):
    """All CHANGED GIVENS of the WANTS of these shades."""
    return itertools.product(*[all_gifts(shades, many) for form, own, many in wants])


def plain_sum(wants, given):
    """A dict from PART to how many are given."""
    told = {}
    for (form, shades, many), gift in zip(wants, given):
        for shade, part in gift:
            told[(form, shade)] = told.get((form, shade), 0) + part
    return told


def plain_serves(counts, wants, given):
    """Whether the counts are enough for what is given."""
    return all(many <= counts.get(part, 0) for part, many in plain_sum(wants, given).items())


def plain_changes(wants, given):
    """The CHANGES, PART by PART."""
    told = 0
    for (form, shades, many), gift in zip(wants, given):
        for shade, part in gift:
            for one in range(part):
                told += 1 if shades and shade not in shades else 0
    return told


def subsets(shades):
    """All rising tuples of these SHADES, () first."""
    return [told for size in range(len(shades) + 1) for told in itertools.combinations(shades, size)]


def small_wants(forms, shades, manys, most):
    """All WANTS of these FORMS, SHADES and manys, at most so many, one order of each."""
    single = [(form, own, many) for form in forms for own in subsets(shades) for many in manys]
    return [wants for size in range(most + 1) for wants in itertools.combinations_with_replacement(single, size)]


def small_heaps(forms, shades, most):
    """All HEAPS of these FORMS and SHADES with at most so many of each PART."""
    parts = [(form, shade) for form in forms for shade in shades]
    for counts in itertools.product(range(most + 1), repeat=len(parts)):
        yield Heap(tuple((form, shade, many) for (form, shade), many in zip(parts, counts) if many))


def broken_gift_row(row):
    """Things that are no (shade, many), or another one."""
    told = list(NO_TUPLES) + [list(row), (), row[:1], row[1:], row + (1,), row + ((),), (row,), row[::-1]]
    told += [replaced(row, 0, wrong) for wrong in NO_WORDS]
    return told + [replaced(row, 1, wrong) for wrong in NO_MANYS + (row[1] + 1, row[1] - 1)]


def broken_gift(gift):
    """Things that are no GIFT of this many."""
    told = list(NO_TUPLES) + [list(gift), (), (gift,), deep(15, gift), gift + ((),), gift[1:], gift[:-1]]
    told += [gift + (("zz", 1),), (("aa", 1),) + gift, gift + gift[-1:]]
    told += [turned for turned in itertools.permutations(gift) if turned != gift]
    for at, row in enumerate(gift):
        told += [replaced(gift, at, wrong) for wrong in broken_gift_row(row)]
        if row[1] > 1:
            told.append(gift[:at] + ((row[0], row[1] - 1), (row[0], 1)) + gift[at + 1:])
            told.append(gift[:at] + ((row[0], 1), (row[0], row[1] - 1)) + gift[at + 1:])
    return told


def broken_gifts(given):
    """Things that are neither a GIVEN nor a CHANGED GIVEN of the same WANTS."""
    told = list(NO_TUPLES) + [list(given), (given,), deep(15, given), given + ((),), given + ((("red", 1),),)]
    if given:
        told += [(), given[1:], given[:-1], given + given[:1], given[0]]
    for at, gift in enumerate(given):
        told += [replaced(given, at, wrong) for wrong in broken_gift(gift)]
    return told


class Refusals:
    """For a TestCase: that something is refused just so."""

    def assert_no_paper(self, word, at, ask, *things):
        """That NoPaper(word, at) comes of it, a NUMBER at, by its own name and by its families alone."""
        try:
            told = ask(*things)
        except (NoDealing, NoKits, *OTHER_FAMILIES) as other:
            self.fail((type(other), things))
        except NoPaper as refusal:
            self.assertEqual((refusal.word, refusal.at), (word, at), things)
            self.assertIs(type(refusal.at), int)
            return
        self.fail(("let by", told, things))

    def assert_families(self, own, ask, family=PaperError):
        """That it is taken by its own name, by its family's, KitError and ValueError, and by no other family."""
        for taker in (own, family, KitError, ValueError):
            with self.assertRaises(taker):
                ask()
        others = [other for other in FAMILIES if other is not family]
        others += [other for names in FAMILIES.values() for other in names if other is not own]
        for taker in others:
            with self.assertRaises(own):
                try:
                    ask()
                except taker:
                    pass
