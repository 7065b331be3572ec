"""Fewer KITS than some that MAKE a SHEET, or a FEWEST TREE that shows that there are none (points 48 to 53).

KITS in fractions are looked at first: at the PLACES known so far the fewest of them are told that fill what lacks
there, or weights that show that these are too many. What still lacks with them is one PLACE more. Where nothing does,
they are rounded up, which MAKES the SHEET all the same; where that is too many, one of the fractions is split.
"""

from partkits.dealing import deal
from partkits.errors import NoKits
from partkits.kitheaps import with_kits
from partkits.kitspans import span_first, span_high, span_low
from partkits.places import held_at, over_at
from partkits.sheets import wants_of
from partkits.weighing import weighed


def fewest_found(heap, kits, sheet):
    """(many, tree): the fewest KITS that MAKE the SHEET, and a FEWEST TREE of these; refused with NoKits."""
    search = FewerKits(heap, kits, wants_of(sheet))
    word, told = ("many", search.enough())
    while word == "many":
        many = told
        word, told = search.fewer_than(sum(many))
    return (many, told)


def tree_of(entries):
    """The FEWEST TREE of its entries as they are gone through, each node without what is below it."""
    trees = []
    for entry in reversed(entries):
        if entry[0] == "more":
            low = trees.pop()
            high = trees.pop()
            trees.append((*entry, low, high))
        else:
            trees.append(entry)
    return trees[0]


class FewerKits:
    """A HEAP, KITS and WANTS, and the PLACES known so far at which something may lack."""

    def __init__(self, heap, kits, wants):
        self.heap = heap
        self.kits = kits
        self.wants = wants
        # (form, shades), what lacks there without KITS, and what each of the KITS HAS there
        self.known = []

    def enough(self):
        """MANY that MAKE the SHEET, however many; refused with NoKits where none do."""
        times = sum([many for form, shades, many in self.wants])
        alike = (times,) * len(self.kits)
        word, told = deal(with_kits(self.heap, self.kits, alike), self.wants)
        if word == "bar":
            # one of the KITS that HAD some there would have enough now: so it is a NEVER
            raise NoKits(told)
        return alike

    def fewer_than(self, fewest):
        """("many", many), which come to less and MAKE the SHEET, or ("tree", tree), a FEWEST TREE of fewest."""
        entries = []
        waiting = [span_first(self.kits, fewest)]
        while len(waiting) > 0:
            span = waiting.pop()
            entry = self.entry_of(span, fewest)
            if entry[0] == "many":
                return entry
            entries.append(entry)
            if entry[0] == "more":
                word, k, a = entry
                # the high one waits first, so that all of the low one is gone through ahead of it
                waiting.extend([span_high(span, k, a, fewest), span_low(span, k, a)])
        return ("tree", tree_of(entries))

    def entry_of(self, span, fewest):
        """The leaf, or the head of the node, with these leasts and mosts; or ("many", many), as fewer_than tells."""
        word, scale, told = self.weigh(span, fewest)
        while word == "filling":
            many = [least * scale + more for least, more in zip(span[0], told)]
            place = self.lacking_place(many, scale)
            if place is None:
                return self.rounded_or_split(many, scale, span, fewest)
            self.learn(place)
            word, scale, told = self.weigh(span, fewest)
        return ("leaf", scale, self.shown_weights(told))

    def weigh(self, span, fewest):
        """What weighed tells of the PLACES known so far, the leasts of the KITS, and how many more there may be."""
        leasts, mosts = span
        lacks = [lack - sum([least * has for least, has in zip(leasts, haves)]) for place, lack, haves in self.known]
        by_kit = [[haves[k] for place, lack, haves in self.known] for k in range(len(self.kits))]
        return weighed(lacks, by_kit, [most - least for least, most in zip(leasts, mosts)], fewest - 1 - sum(leasts))

    def lacking_place(self, many, scale):
        """A PLACE where too little is, so many KITS added, all of it by the scale; None where there is none."""
        wants = tuple([(form, shades, wanted * scale) for form, shades, wanted in self.wants])
        word, told = deal(with_kits(self.heap, self.kits, many, scale), wants)
        return told if word == "bar" else None

    def learn(self, place):
        """Keeps a PLACE more."""
        form, shades = place
        haves = [held_at(kit, form, shades) for kit in self.kits]
        self.known.append((place, over_at(self.heap, self.wants, form, shades), haves))

    def rounded_or_split(self, many, scale, span, fewest):
        """("many", many), rounded up, where they come to less; else ("more", k, a), that parts the fractions of k."""
        rounded = tuple([(own + scale - 1) // scale for own in many])
        if sum(rounded) < fewest:
            return ("many", rounded)
        broken = [k for k, own in enumerate(many) if rounded[k] * scale != own]
        # the widest one, so that none is split over and over while another one would tell more
        k = max(broken, key=lambda place: span[1][place] - span[0][place])
        return ("more", k, rounded[k] - 1)

    def shown_weights(self, weights):
        """The weights above nought, each with its PLACE."""
        shown = [(place, weight) for (place, lack, haves), weight in zip(self.known, weights) if weight > 0]
        return tuple([(form, shades, weight) for (form, shades), weight in shown])
