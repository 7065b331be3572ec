"""One THING more beside others, and all that can be built AT ONCE with these (points 43 to 45)."""

from partkits.cases import build
from partkits.errors import NoThing
from partkits.kinds import is_number
from partkits.standings import rows_of


def one_more(heap, things, places, k):
    """What build tells of the HEAP and the SHEET of these places and k; refused with NoThing."""
    if not is_number(k) or not 0 <= k < len(things) or k in places:
        raise NoThing(k)
    return build(heap, rows_of(things, sorted([*places, k])))


def joinable(heap, things, places):
    """The places of all others that can be built AT ONCE with these, each alone beside them, a rising tuple."""
    # where these themselves can't, none can with them, as fewer are built wherever more are
    others = [k for k in range(len(things)) if k not in places]
    return tuple([k for k in others if one_more(heap, things, places, k)[0] == "dealt"])
