"""Bounds: how far nothing can come on a line, seen by one who sees all.

A key is the (place, rank) of a handler. A table of keys has a stamp, or None, for each.
"""

from farasnothing.boards import items_at
from farasnothing.changing import arrival
from farasnothing.errors import BadKnows
from farasnothing.knowing import bound_by, edges_in, every_place, follows_from, own_stamps, senders_on, soonest_by
from farasnothing.knowing import stamps_on_way
from farasnothing.nevers import greater, is_less, is_stamp_or_never
from farasnothing.parts import find_line_into, find_place, find_rank, handlers_of, require_line
from farasnothing.settings import is_word
from farasnothing.stamps import is_stamp
from farasnothing.values import is_tuple_of


def soonest(machine, by):
    """For each station the soonest stamps of its handlers, by rank, seen by one who sees all."""
    return shown_table(machine, soonest_by(machine, every_place(machine), words_by(machine, by)))


def bound(machine, line, by):
    """How far nothing can come on a line, None for never."""
    require_line(machine.model, line)
    words = words_by(machine, by)
    return bound_by(machine, line, soonest_by(machine, every_place(machine), words), words)


def why_bound(machine, line, by):
    """The bound of a line, a road of events that leads to it, and a table below which nothing comes."""
    require_line(machine.model, line)
    words = words_by(machine, by)
    table = soonest_by(machine, every_place(machine), words)
    least = bound_by(machine, line, table, words)
    road = [] if is_bare(machine, line, least) else road_to(machine, line, words, table)
    return (least, tuple([shown_stop(machine, key, table[key]) for key in road]), shown_table(machine, table))


def shows_bound(machine, line, by, value):
    """Whether any value is the bound of a line, a road that leads to it, and a table below which nothing comes."""
    require_line(machine.model, line)
    words = words_by(machine, by)
    if not is_tuple_of(value, 3):
        return False
    least, road, shown = value
    if not is_stamp_or_never(least) or not is_road(machine, line, words, least, road):
        return False
    table = table_shown(machine, shown)
    if table is None or not keeps_all(machine, words, table):
        return False
    return bound_by(machine, line, table, words) == least


def words_by(machine, by):
    """The words of all stations that any value tells: a word for all, or known."""
    if by == "known":
        return machine.knows
    if not is_word(by):
        raise BadKnows(by)
    return (by,) * len(machine.posts)


def is_bare(machine, line, least):
    """Whether no road leads to the bound: it is never, or the stamp of a letter on the way."""
    return least is None or least in stamps_on_way(machine, line)


def road_to(machine, line, words, table):
    """The keys of events from an item to a handler from which the bound of a line follows.

    Each event is chosen with the least stamp of those that can cause the next one. So one who can set an alarm, and
    send as soon, is never passed by; by delays such a road goes by letters alone.
    """
    own = own_stamps(machine, every_place(machine))
    edges = edges_in(machine, every_place(machine), words)
    key = least_key(table, senders_on(machine, line, words))
    road = [key]
    while table[key] != own[key]:
        causes = [cause for cause, effect, worth, by_line in edges
                  if effect == key and follows_from(machine, table[cause], worth, by_line) == table[key]]
        key = least_key(table, causes)
        road = [key, *road]
    return road


def least_key(table, keys):
    """The first one of these keys with the least stamp, of which one at least has a stamp."""
    return min([(table[key], key) for key in keys if table[key] is not None])[1]


def shown_stop(machine, key, stamp):
    """An event of a road as (station, name, stamp)."""
    station = machine.model[1][key[0]]
    return (station[0], handlers_of(station)[key[1]], stamp)


def shown_table(machine, table):
    """A table with a tuple of stamps for each station, by rank."""
    return tuple([tuple([table[place, rank] for rank, _ in enumerate(handlers_of(station))])
                  for place, station in enumerate(machine.model[1])])


def table_shown(machine, value):
    """The table that any value shows, None if it has not the form of one."""
    stations = machine.model[1]
    if not is_tuple_of(value, len(stations)):
        return None
    table = {}
    for place, stamps in enumerate(value):
        if not is_tuple_of(stamps, len(handlers_of(stations[place]))):
            return None
        for rank, stamp in enumerate(stamps):
            if not is_stamp_or_never(stamp):
                return None
            table[place, rank] = stamp
    return table


def keeps_all(machine, words, table):
    """Whether no stamp of a table is greater than its own one or than what follows from another one."""
    own = own_stamps(machine, every_place(machine))
    if any([is_less(own[key], table[key]) for key in own]):
        return False
    edges = edges_in(machine, every_place(machine), words)
    return not any([is_less(follows_from(machine, table[cause], worth, line), table[effect])
                    for cause, effect, worth, line in edges])


def is_road(machine, line, words, least, value):
    """Whether any value is a road from which the bound of a line follows."""
    if value == ():
        return is_bare(machine, line, least)
    if not isinstance(value, tuple) or least is None:
        return False
    if not all([is_stop(machine, stop) for stop in value]):
        return False
    keys = [key_of(machine, stop) for stop in value]
    stamps = [stop[2] for stop in value]
    if stamps[0] not in item_stamps(machine, keys[0]):
        return False
    edges = edges_in(machine, every_place(machine), words)
    for at, key in enumerate(keys[1:]):
        follows = [follows_from(machine, stamps[at], worth, by_line) for cause, effect, worth, by_line in edges
                   if cause == keys[at] and effect == key]
        if stamps[at + 1] not in follows:
            return False
    if keys[-1] not in senders_on(machine, line, words):
        return False
    return greater(machine.wires[line].hears, arrival(machine, line, stamps[-1])) == least


def is_stop(machine, value):
    """Whether any value is an event of a road: (station, name, stamp)."""
    if not is_tuple_of(value, 3) or not is_stamp(value[2]):
        return False
    place = find_place(machine.model[1], value[0])
    return place is not None and find_rank(machine.model[1][place], value[1]) is not None


def key_of(machine, stop):
    """The key of an event of a road."""
    place = find_place(machine.model[1], stop[0])
    return (place, find_rank(machine.model[1][place], stop[1]))


def item_stamps(machine, key):
    """The stamps of the items of a handler, those of letters on the way to it too."""
    place, rank = key
    waiting = [item[0] for item in items_at(machine, place) if item[1] == rank]
    line = find_line_into(machine.model, place, handlers_of(machine.model[1][place])[rank])
    return waiting if line is None else [*waiting, *stamps_on_way(machine, line)]
