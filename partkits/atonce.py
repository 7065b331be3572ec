"""More THINGS AT ONCE than a NUMBER, or a MOST TREE that shows that there are none (points 39 to 42)."""

from partkits.dealing import deal
from partkits.standings import (is_undecided, many_possible, places_in, standing_first, standing_wants,
                                standings_of_row, standings_of_thing)


def most_found(heap, things):
    """(places, dealing, tree), a MOST PAPER."""
    search = AtOnce(heap, things)
    # none of them are always built, so this tells some places at first
    word, told = search.more_than(-1)
    while word == "dealt":
        places, dealing = told
        word, told = search.more_than(len(places))
    return (places, dealing, told)


def open_row(standing):
    """(k, j) of the first ROW of a THING that is IN of which no WAY is TAKEN yet; None where there is none."""
    for k in places_in(standing):
        if None in standing[k]:
            return (k, standing[k].index(None))
    return None


def first_undecided(standing):
    """The place of the first UNDECIDED THING; None where there is none."""
    for k in range(len(standing)):
        if is_undecided(standing, k):
            return k
    return None


class AtOnce:
    """A HEAP and THINGS, and what was told so far of WANTS that came up."""

    def __init__(self, heap, things):
        self.heap = heap
        self.things = things
        self.known = {}

    def told_of(self, wants):
        """What deal tells of the WANTS, asked once: where a THING is OUT they are those from ahead of it."""
        if wants not in self.known:
            self.known[wants] = deal(self.heap, wants)
        return self.known[wants]

    def more_than(self, number):
        """("dealt", (places, dealing)), of more THINGS than the NUMBER, or ("tree", tree), a MOST TREE for it."""
        return self.sought(standing_first(self.things), number)

    def sought(self, standing, number):
        """What more_than tells of the THINGS as they stand."""
        if many_possible(standing) <= number:
            # by way of a list, as one that is written out would be the very same tuple each time
            return ("tree", tuple(["count"]))
        word, told = self.told_of(standing_wants(self.things, standing))
        if word == "bar":
            return ("tree", ("bar", told[0], told[1]))
        asked = open_row(standing)
        if asked is not None:
            k, j = asked
            return self.sought_below(("row", k, j), standings_of_row(self.things, standing, k, j), number)
        k = first_undecided(standing)
        if k is not None:
            return self.sought_below(("thing", k), standings_of_thing(self.things, standing, k), number)
        places = places_in(standing)
        choice = tuple([way for place in places for way in standing[place]])
        return ("dealt", (places, (choice, told)))

    def sought_below(self, head, standings, number):
        """What more_than tells of all these, one behind another; the NODE has this head."""
        nodes = []
        for standing in standings:
            word, told = self.sought(standing, number)
            if word == "dealt":
                return (word, told)
            nodes.append(told)
        return ("tree", (*head, *nodes))
