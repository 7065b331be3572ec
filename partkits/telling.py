"""Where all is, as a TALE has it, at an hour or at the end (points 62 to 66)."""

from partkits.copies import copied
from partkits.course import course_of
from partkits.errors import NoThing
from partkits.kinds import is_word
from partkits.pages import until


def asides(tale):
    """The PAGES of the TALE that are ASIDE, as they stand in it."""
    return tuple([copied(page) for page in course_of(tale).aside])


def heap_at(tale, hour=None):
    """The HEAP at this hour."""
    return course_of(until(tale, hour)).heap


def came(tale, hour=None):
    """The HEAP of what CAME up to this hour."""
    return course_of(until(tale, hour)).arrived


def lost(tale, hour=None):
    """The HEAP of what is LOST at this hour."""
    return course_of(until(tale, hour)).gone


def lent(tale, hour=None):
    """(who, PART ROWS) for each who has something at this hour, a rising tuple."""
    having = course_of(until(tale, hour)).lent
    return tuple([(who, having[who].rows()) for who in sorted(having) if len(having[who]) > 0])


def things_at(tale, hour=None):
    """The names of the things that there are at this hour, a rising tuple."""
    return tuple(sorted(course_of(until(tale, hour)).begun))


def thing_named(tale, name, hour):
    """The thing of this name at this hour; refused with NoThing."""
    begun = course_of(until(tale, hour)).begun
    if not is_word(name) or name not in begun:
        raise NoThing(name)
    return begun[name]


def thing_sheet(tale, name, hour=None):
    """The SHEET of the thing of this name; refused with NoThing."""
    return copied(thing_named(tale, name, hour).sheet)


def holding(tale, name, hour=None):
    """(row, way, want, shade, many) of all that the thing of this name holds, a rising tuple; refused with NoThing."""
    return thing_named(tale, name, hour).held_rows()
