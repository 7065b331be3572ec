"""Looks whether a thing is a MOST PAPER (points 40 and 41)."""

from partkits.barchecker import is_bar
from partkits.dealings import is_dealing
from partkits.errors import NoPaper
from partkits.kinds import is_number
from partkits.standings import (is_open_row_in, is_undecided, many_possible, rows_of, standing_first, standing_wants,
                                standings_of_row, standings_of_thing)

SIZES = {"thing": 4, "bar": 3, "count": 1}
LEAST_ROW = 3


def is_places(things, thing):
    """True where thing is a rising tuple of places of THINGS."""
    if not isinstance(thing, tuple) or not all([is_number(k) and 0 <= k < len(things) for k in thing]):
        return False
    return all([ahead < behind for ahead, behind in zip(thing, thing[1:])])


def is_node(thing):
    """True where thing is a tuple with the word of a NODE first, and of its size."""
    if not isinstance(thing, tuple) or len(thing) == 0 or not isinstance(thing[0], str):
        return False
    if thing[0] == "row":
        return len(thing) >= LEAST_ROW
    return SIZES.get(thing[0]) == len(thing)


def row_fault(things, standing, node):
    """The first word that tells what isn't so of a NODE with "row"; None where all is so."""
    k, j = node[1:LEAST_ROW]
    if not is_open_row_in(standing, k, j):
        return "row"
    return None if len(node) - LEAST_ROW == len(things[k][j]) else "cases"


def fault_of(heap, things, standing, number, node):
    """The first word that tells what isn't so of the NODE itself; None where all is so."""
    if not is_node(node):
        return "shape"
    if node[0] == "row":
        return row_fault(things, standing, node)
    if node[0] == "thing":
        right = is_undecided(standing, node[1])
    elif node[0] == "bar":
        right = is_bar(heap, standing_wants(things, standing), node[1:])
    else:
        right = many_possible(standing) <= number
    return None if right else node[0]


def nodes_below(things, standing, node):
    """The NODES right below a NODE, each with how THINGS stand there."""
    if node[0] == "thing":
        return list(zip(node[2:], standings_of_thing(things, standing, node[1])))
    if node[0] == "row":
        return list(zip(node[LEAST_ROW:], standings_of_row(things, standing, node[1], node[2])))
    return []


def look_at_tree(heap, things, number, tree):
    """Refuses with NoPaper where the thing is no MOST TREE for the NUMBER."""
    waiting = [(tree, standing_first(things))]
    at = 0
    while len(waiting) > 0:
        node, standing = waiting.pop()
        fault = fault_of(heap, things, standing, number, node)
        if fault is not None:
            raise NoPaper(fault, at)
        # the last one waits first, so that they are gone through as they are numbered
        waiting.extend(nodes_below(things, standing, node)[::-1])
        at += 1


def lets_most(heap, things, thing):
    """How many places the MOST PAPER has; refused with NoPaper."""
    if not isinstance(thing, tuple) or len(thing) != 3:
        raise NoPaper("shape", -1)
    places, dealing, tree = thing
    if not is_places(things, places):
        raise NoPaper("places", -1)
    if not is_dealing(heap, rows_of(things, places), dealing):
        raise NoPaper("dealing", -1)
    look_at_tree(heap, things, len(places), tree)
    return len(places)
