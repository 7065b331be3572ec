"""A SHEET that one of two HEAPS BUILDS and the other one doesn't (points 55 and 57)."""

from partkits.cases import build
from partkits.classes import marked, marks_of
from partkits.dealing import deal
from partkits.sheets import wants_of


def unlike_marks(ones, others):
    """The MARKS of which one HEAP has another many than the other one, rising."""
    return [marks for marks in sorted(set([*ones, *others])) if ones.get(marks, 0) != others.get(marks, 0)]


def many_let(counts, entries):
    """How many PARTS, so counted by their MARKS, some of these entries let."""
    return sum([many for marks, many in counts.items() if any([at in entries for at in marks])])


def parting_entries(vocabulary, ones, others, unlike):
    """Places of entries of one FORM of which some let more PARTS of one HEAP than of the other one."""
    fewest = min(unlike, key=len)
    form = vocabulary[fewest[0]][0]
    entries = [at for at, (own, shades) in enumerate(vocabulary) if own == form]
    if many_let(ones, entries) != many_let(others, entries):
        return entries
    # of all MARKS within the fewest these alone are unlike: so unlike is how many PARTS no other entry lets and,
    # where both have as many that some entry lets, how many some other entry lets
    return [at for at in entries if at not in fewest]


def sheet_for(vocabulary, entries, heap):
    """The SHEET that wants each PART of the HEAP that some of the entries let, by the first of them that lets it."""
    wanted = {}
    for form, shade, many in heap.rows():
        letting = [at for at in marks_of(vocabulary, form, shade) if at in entries]
        if len(letting) > 0:
            wanted[letting[0]] = wanted.get(letting[0], 0) + many
    way = [(vocabulary[at][0], tuple([shade for shade in vocabulary[at][1]]), wanted[at]) for at in sorted(wanted)]
    return ((tuple(way),),)


def parting(vocabulary, one, other):
    """(side, sheet, dealing, bar), a PARTING; None where the HEAPS are ALIKE."""
    ones, others = marked(vocabulary, one), marked(vocabulary, other)
    unlike = unlike_marks(ones, others)
    if len(unlike) == 0:
        return None
    entries = parting_entries(vocabulary, ones, others, unlike)
    side = 0 if many_let(ones, entries) > many_let(others, entries) else 1
    more, fewer = (one, other) if side == 0 else (other, one)
    sheet = sheet_for(vocabulary, entries, more)
    return (side, sheet, build(more, sheet)[1], deal(fewer, wants_of(sheet))[1])
