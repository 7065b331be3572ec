"""What is left to do of things, and whether it can be done (points 67 to 69)."""

from partkits.cases import build
from partkits.heaps import Heap
from partkits.telling import heap_at, holding, thing_sheet, things_at


def left_of_way(way, held):
    """The WANTS of the WAY that don't hold all that they want, each with as many as it lacks."""
    laid = [sum([many for place, many in held if place == at]) for at in range(len(way))]
    return tuple([(form, shades, many - has) for (form, shades, many), has in zip(way, laid) if has < many])


def left_of_row(row, held):
    """What is LEFT of a ROW that holds (way, want, shade, many)."""
    if len(held) == 0:
        return row
    # all that a ROW holds is held by one WAY
    way = held[0][0]
    return (left_of_way(row[way], [(want, many) for own, want, shade, many in held]),)


def left_to_do(tale, name, hour=None):
    """What is LEFT of the thing of this name, a SHEET; refused with NoThing."""
    held = holding(tale, name, hour)
    sheet = thing_sheet(tale, name, hour)
    return tuple([left_of_row(row, [own[1:] for own in held if own[0] == at]) for at, row in enumerate(sheet)])


def is_finished(tale, name, hour=None):
    """True where each ROW of what is LEFT of the thing has a WAY (); refused with NoThing."""
    return all([() in row for row in left_to_do(tale, name, hour)])


def can_finish(tale, names=None, hour=None):
    """What build tells of the HEAP and of all that is LEFT of the things of these names; refused with NoThing."""
    wanted = things_at(tale, hour) if names is None else names
    sheet = tuple([row for name in wanted for row in left_to_do(tale, name, hour)])
    return build(heap_at(tale, hour), sheet)


def could_anew(tale, name, hour=None):
    """What build tells of the thing's whole SHEET and of the HEAP with all that it holds; refused with NoThing."""
    sheet = thing_sheet(tale, name, hour)
    held = holding(tale, name, hour)
    parts = Heap(tuple([(sheet[row][way][want][0], shade, many) for row, way, want, shade, many in held]))
    return build(heap_at(tale, hour).plus(parts), sheet)
