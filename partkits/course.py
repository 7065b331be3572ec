"""What the PAGES of a TALE do, one after another (point 62)."""

from partkits.heaps import Heap
from partkits.places import lets_shade


class Begun:
    """A thing that was begun: its SHEET, and what its WANTS hold."""

    def __init__(self, sheet):
        self.sheet = sheet
        # by (row, way, want, shade), from 1 on
        self.laid = {}

    def want_at(self, row, way, want):
        """The WANT there; None where there is none."""
        if row >= len(self.sheet) or way >= len(self.sheet[row]) or want >= len(self.sheet[row][way]):
            return None
        return self.sheet[row][way][want]

    def has_room(self, row, way, want, shade, many):
        """True where so many PARTS of this SHADE may come to the WANT there."""
        there = self.want_at(row, way, want)
        if there is None or not lets_shade(there[1], shade):
            return False
        if any([own[0] == row and own[1] != way for own in self.laid]):
            return False
        return many + sum([self.laid[own] for own in self.laid if own[:3] == (row, way, want)]) <= there[2]

    def put(self, place, many):
        """So many more are held at (row, way, want, shade); below nought, fewer."""
        held = self.laid.get(place, 0) + many
        if held > 0:
            self.laid[place] = held
        else:
            del self.laid[place]

    def held_rows(self):
        """(row, way, want, shade, many) of each WANT and SHADE of which it holds some, a rising tuple."""
        return tuple([(*place, self.laid[place]) for place in sorted(self.laid)])

    def held_heap(self):
        """The HEAP of all that its WANTS hold."""
        rows = self.held_rows()
        return Heap(tuple([(self.sheet[row][way][want][0], shade, many) for row, way, want, shade, many in rows]))


class Course:
    """Where all is, behind the PAGES gone through so far.

    What does a DEED tells True, or False where it CAN'T BE, and then nothing is done.
    """

    def __init__(self):
        self.heap = Heap()
        self.arrived = Heap()
        self.gone = Heap()
        self.lent = {}
        self.begun = {}
        self.aside = []

    def turn(self, page):
        """Goes through one PAGE more."""
        if not self.does(page[2]):
            self.aside.append(page)

    def does(self, deed):
        """Does what the DEED tells."""
        word, *things = deed
        if word == "open":
            return self.opens(*things)
        if word == "begin":
            return self.begins(*things)
        if word == "lay":
            return self.lays(*things)
        if word == "off":
            return self.takes_off(*things)
        if word == "apart":
            return self.takes_apart(*things)
        return self.lends(*things) if word == "lend" else self.brings(*things)

    def opens(self, whole, lacking):
        """What whole has above lacking comes to the HEAP."""
        full, less = Heap(whole), Heap(lacking)
        if not full.holds(less):
            return False
        fresh = full.less(less)
        self.heap = self.heap.plus(fresh)
        self.arrived = self.arrived.plus(fresh)
        return True

    def begins(self, name, sheet):
        """There is a thing of this name then."""
        if name in self.begun:
            return False
        self.begun[name] = Begun(sheet)
        return True

    def lays(self, name, row, way, want, shade, many):
        """So many PARTS go from the HEAP to the WANT."""
        if name not in self.begun or not self.begun[name].has_room(row, way, want, shade, many):
            return False
        thing = self.begun[name]
        parts = Heap(((thing.want_at(row, way, want)[0], shade, many),))
        if not self.heap.holds(parts):
            return False
        self.heap = self.heap.less(parts)
        thing.put((row, way, want, shade), many)
        return True

    def takes_off(self, name, row, way, want, shade, many):
        """So many PARTS go from the WANT back to the HEAP."""
        # a WANT that isn't there holds nothing
        if name not in self.begun or self.begun[name].laid.get((row, way, want, shade), 0) < many:
            return False
        thing = self.begun[name]
        self.heap = self.heap.plus(Heap(((thing.want_at(row, way, want)[0], shade, many),)))
        thing.put((row, way, want, shade), -many)
        return True

    def takes_apart(self, name, lost):
        """What the thing holds goes to the HEAP, but what is LOST; there is no thing of this name then."""
        missing = Heap(lost)
        if name not in self.begun or not self.begun[name].held_heap().holds(missing):
            return False
        self.heap = self.heap.plus(self.begun[name].held_heap().less(missing))
        self.gone = self.gone.plus(missing)
        del self.begun[name]
        return True

    def lends(self, who, rows):
        """These PARTS go from the HEAP to who."""
        parts = Heap(rows)
        if not self.heap.holds(parts):
            return False
        self.heap = self.heap.less(parts)
        self.lent[who] = self.lent.get(who, Heap()).plus(parts)
        return True

    def brings(self, who, rows):
        """These PARTS go from who back to the HEAP."""
        parts = Heap(rows)
        has = self.lent.get(who, Heap())
        if not has.holds(parts):
            return False
        self.heap = self.heap.plus(parts)
        self.lent[who] = has.less(parts)
        return True


def course_of(tale):
    """Where all is behind the last PAGE of the TALE."""
    course = Course()
    for page in tale:
        course.turn(page)
    return course
