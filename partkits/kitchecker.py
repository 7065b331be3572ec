"""Looks at papers of KITS: is a thing a NEVER, a FEWEST PAPER (points 48, 50, 51 and 53)."""

from partkits.dealings import is_dealing
from partkits.errors import NoPaper
from partkits.kinds import is_count, is_many, is_number, is_shades, is_word
from partkits.kitheaps import with_kits
from partkits.kitspans import span_first, span_high, span_low
from partkits.places import held_at, over_at
from partkits.sheets import wants_of


def is_place(thing):
    """True where thing is a PLACE."""
    if not isinstance(thing, tuple) or len(thing) != 2 or not is_word(thing[0]):
        return False
    return thing[1] is None or (is_shades(thing[1]) and len(thing[1]) > 0)


def lets_never(heap, kits, sheet, thing):
    """True where thing is a NEVER of the HEAP, the KITS and the PLAIN SHEET; refused with NoPaper."""
    if not is_place(thing):
        raise NoPaper("shape", -1)
    form, shades = thing
    if over_at(heap, wants_of(sheet), form, shades) <= 0:
        raise NoPaper("lack", -1)
    for k, kit in enumerate(kits):
        if held_at(kit, form, shades) > 0:
            raise NoPaper("has", k)
    return True


def is_many_of(kits, thing):
    """True where thing is MANY for the KITS."""
    return isinstance(thing, tuple) and len(thing) == len(kits) and all([is_count(own) for own in thing])


def is_entry(thing):
    """True where thing is a tuple of five with "more" first, or one of three with "leaf"."""
    if not isinstance(thing, tuple):
        return False
    return (len(thing) == 5 and thing[0] == "more") or (len(thing) == 3 and thing[0] == "leaf")


def is_weight(thing):
    """True where thing is (form, shades, w), (form, shades) a PLACE, w from 1 on."""
    return isinstance(thing, tuple) and len(thing) == 3 and is_place(thing[:2]) and is_many(thing[2])


def is_weights(thing):
    """True where thing is a tuple, perhaps (), of weights."""
    return isinstance(thing, tuple) and all([is_weight(row) for row in thing])


def node_fault(kits, span, node):
    """The first word that tells what isn't so of a node itself; None where all is so."""
    word, k, a, low, high = node
    if not is_number(k) or not 0 <= k < len(kits):
        return "which"
    leasts, mosts = span
    return None if is_number(a) and leasts[k] <= a < mosts[k] else "split"


class KitsLook:
    """A HEAP, KITS and WANTS, and the F of a FEWEST TREE that is looked at."""

    def __init__(self, heap, kits, wants, total):
        self.heap = heap
        self.kits = kits
        self.wants = wants
        self.total = total

    def lack_at(self, leasts, form, shades):
        """The LACK of a PLACE, with these leasts of the KITS; perhaps below nought."""
        filled = sum([least * held_at(kit, form, shades) for kit, least in zip(self.kits, leasts)])
        return over_at(self.heap, self.wants, form, shades) - filled

    def is_above(self, span, d, weights):
        """True where the weights show that no MANY within the span, that come to less than F, MAKE the SHEET."""
        leasts, mosts = span
        count = sum([self.lack_at(leasts, form, shades) * w for form, shades, w in weights])
        for kit, least, most in zip(self.kits, leasts, mosts):
            has = sum([held_at(kit, form, shades) * w for form, shades, w in weights])
            if has > d:
                count -= (has - d) * (most - least)
        return count > d * (self.total - 1 - sum(leasts))

    def leaf_fault(self, span, leaf):
        """The first word that tells what isn't so of a leaf; None where all is so."""
        word, d, weights = leaf
        if not is_many(d) or not is_weights(weights):
            return "weights"
        return None if self.is_above(span, d, weights) else "bound"

    def fault_of(self, span, entry):
        """The first word that tells what isn't so of the entry itself; None where all is so."""
        if not is_entry(entry):
            return "entry"
        return node_fault(self.kits, span, entry) if entry[0] == "more" else self.leaf_fault(span, entry)

    def below(self, span, entry):
        """What is right below an entry, each with its leasts and mosts, the high one first."""
        if entry[0] == "leaf":
            return []
        word, k, a, low, high = entry
        return [(high, span_high(span, k, a, self.total)), (low, span_low(span, k, a))]

    def look_at_tree(self, tree):
        """Refuses with NoPaper where the thing is no FEWEST TREE of F."""
        waiting = [(tree, span_first(self.kits, self.total))]
        number = 0
        while len(waiting) > 0:
            entry, span = waiting.pop()
            fault = self.fault_of(span, entry)
            if fault is not None:
                raise NoPaper(fault, number)
            waiting.extend(self.below(span, entry))
            number += 1


def lets_kits(heap, kits, sheet, thing):
    """F, what the MANY of the FEWEST PAPER come to; refused with NoPaper."""
    if not isinstance(thing, tuple) or len(thing) != 3:
        raise NoPaper("shape", -1)
    many, dealing, tree = thing
    if not is_many_of(kits, many):
        raise NoPaper("many", -1)
    if not is_dealing(with_kits(heap, kits, many), sheet, dealing):
        raise NoPaper("dealing", -1)
    look = KitsLook(heap, kits, wants_of(sheet), sum(many))
    look.look_at_tree(tree)
    return sum(many)
