"""Chains of lines on which letters come to a station, by delays alone.

Stations are told by their places. All chains that lead to the station that is asked for end at one place more, behind
the last station, so that what waits at the station itself is the beginning of a chain and not the end of one.
A route is (begin, end, time, step): a line, or what a line stands for, with a step by which it is known.
"""

from farasnothing.boards import items_at
from farasnothing.errors import BadPrices, BadTime, HasChanges
from farasnothing.knowing import stamps_on_way
from farasnothing.parts import lines_into, place_of, receiver_of, require_none_behind, sender_of
from farasnothing.prices import is_price
from farasnothing.values import is_count, is_tuple_of


def place_kept(machine, station, time, prices):
    """The place of a station from which letters are to be kept before a time, at which prices of delays."""
    place = place_of(machine.model, station)
    if not is_count(time):
        raise BadTime(time)
    if not is_tuple_of(prices, len(machine.wires)) or not all([one is None or is_price(one) for one in prices]):
        raise BadPrices(prices)
    if machine.changes:
        raise HasChanges()
    require_none_behind(machine)
    return place


def comes_early(machine, place, time):
    """Whether a letter that is on the way to a station has a stamp below a time."""
    return any([stamp[0] < time for line in lines_into(machine.model, place) for stamp in stamps_on_way(machine, line)])


def begin_times(machine):
    """The time at which a chain can begin at each place, None where it cannot; at none behind the last station."""
    return [*[begin_time(machine, place) for place, _ in enumerate(machine.posts)], None]


def begin_time(machine, place):
    """The least time of the items of a station and of the letters on the way to it, None without one."""
    times = [item[0][0] for item in items_at(machine, place)]
    for line in lines_into(machine.model, place):
        times.extend([stamp[0] for stamp in stamps_on_way(machine, line)])
    return min(times, default=None)


def ends_of(machine, place):
    """For each line the places at which it begins and ends, if chains lead to the station at this place."""
    model = machine.model
    last = len(machine.posts)
    receivers = [receiver_of(model, line) for line, _ in enumerate(model[2])]
    return [(sender_of(model, line), last if receiver == place else receiver)
            for line, receiver in enumerate(receivers)]


def delays_of(machine):
    """The delays of the lines."""
    return [line[4] for line in machine.model[2]]


def reached(begins, routes):
    """The least times at which places are reached, and the routes by which they are, None where a chain begins."""
    times = list(begins)
    routes_to = [None for _ in begins]
    lowered = True
    while lowered:
        lowered = False
        for route in routes:
            begin, end, time, _ = route
            if times[begin] is not None and (times[end] is None or times[begin] + time < times[end]):
                times[end] = times[begin] + time
                routes_to[end] = route
                lowered = True
    return times, routes_to


def way_to_end(routes_to):
    """Where the chain begins that leads to the end of all chains, and the steps of its routes."""
    place = len(routes_to) - 1
    steps = []
    while routes_to[place] is not None:
        place, _, _, step = routes_to[place]
        steps = [step, *steps]
    return place, steps
