"""Whether answers about fewest notices are right."""

from farasnothing.hearing import Listener, is_below, place_asked
from farasnothing.limits import are_tops
from farasnothing.nevers import is_stamp_or_never
from farasnothing.values import is_integer, is_tuple_of


def shows_fewest(machine, station, most, value):
    """Whether any value is an answer of fewest: any levels, any tops, any lines of so many."""
    place = place_asked(machine, station, most)
    listener = Listener(machine)
    if is_tuple_of(value, 2) and value[0] == "never":
        return are_tops(listener, place, value[1])
    if not is_tuple_of(value, 3):
        return False
    if value[0] == "notices":
        _, lines, levels = value
        if not are_notices(listener, place, lines) or len(lines) > most:
            return False
        return are_levels(listener, place, levels, len(lines))
    if value[0] == "more":
        _, levels, lines = value
        if not are_notices(listener, place, lines) or len(lines) <= most:
            return False
        return are_levels(listener, place, levels, most + 1)
    return False


def are_notices(listener, place, value):
    """Whether any value is a tuple of lines that let the station take its next item if notices are sent on them."""
    if not isinstance(value, tuple):
        return False
    heard = listener.heard_first()
    for line in value:
        if not is_integer(line) or line not in listener.lines:
            return False
        heard = listener.noted(heard, line)
    return listener.may_take(place, heard)


def are_levels(listener, place, value, many):
    """Whether any value is so many levels, by none of which the station may take its next item."""
    if not is_tuple_of(value, many) or not all([is_level(listener, level) for level in value]):
        return False
    if any([listener.may_take(place, heard) for level in value for heard in level]):
        return False
    ahead = [listener.heard_first()]
    for level in value:
        if not all([is_covered(heard, level) for heard in ahead]):
            return False
        ahead = listener.further(level)
    return True


def is_level(listener, value):
    """Whether any value is a tuple of heard things."""
    return isinstance(value, tuple) and all([are_heard(listener, heard) for heard in value])


def are_heard(listener, value):
    """Whether any value is heard things."""
    return is_tuple_of(value, len(listener.lines)) and all([is_stamp_or_never(stamp) for stamp in value])


def is_covered(heard, level):
    """Whether heard things are below some of a level."""
    return any([is_below(heard, other) for other in level])
