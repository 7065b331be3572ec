"""Looks whether a thing is a CASE TREE (points 35 and 36)."""

from partkits.barchecker import is_bar
from partkits.errors import NoPaper
from partkits.takings import is_open_row, taken_first, taken_wants, taken_with


def is_node(thing):
    """True where thing is a tuple of three with "bar" first, or of two or more with "row" first."""
    if not isinstance(thing, tuple) or len(thing) < 2:
        return False
    return thing[0] == "row" or (thing[0] == "bar" and len(thing) == 3)


def fault_of(heap, sheet, taken, node):
    """The first word that tells what isn't so of the NODE itself; None where all is so."""
    if not is_node(node):
        return "shape"
    if node[0] == "bar":
        return None if is_bar(heap, taken_wants(sheet, taken), node[1:]) else "bar"
    if not is_open_row(taken, node[1]):
        return "row"
    return None if len(node) - 2 == len(sheet[node[1]]) else "cases"


def nodes_below(taken, node):
    """The NODES right below a NODE with "row", each with what is TAKEN there."""
    return [(below, taken_with(taken, node[1], way)) for way, below in enumerate(node[2:])]


def lets_cases(heap, sheet, thing):
    """How many NODES with "bar" the CASE TREE has; refused with NoPaper."""
    waiting = [(thing, taken_first(sheet))]
    number = 0
    bars = 0
    while len(waiting) > 0:
        node, taken = waiting.pop()
        fault = fault_of(heap, sheet, taken, node)
        if fault is not None:
            raise NoPaper(fault, number)
        if node[0] == "bar":
            bars += 1
        else:
            # the last one waits first, so that they are gone through as they are numbered
            waiting.extend(nodes_below(taken, node)[::-1])
        number += 1
    return bars
