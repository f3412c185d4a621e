"""Tops: heard things that no number of notices exceeds.

In tops a turn may be None, which is greater than all integers. It is reckoned with as an integer that is greater than
all turns in play by more than events can add that follow from one another; so to compare it comes to the same.
"""

from farasnothing.boards import items_at
from farasnothing.changing import changes_of, ever_sent, last_stamp
from farasnothing.hearing import is_below
from farasnothing.nevers import is_less
from farasnothing.parts import handlers_of
from farasnothing.values import is_count, is_tuple_of


def settled(listener):
    """The least tops, with turns that rise for ever written as the integer of high_turn."""
    turn = high_turn(listener, [])
    time = high_time(listener)
    heard = listener.heard_first()
    before = None
    while heard != before:
        before = heard
        for line in listener.lines:
            heard = tuple([clipped(stamp, time, turn) for stamp in listener.noted(heard, line)])
    return heard


def clipped(stamp, time, turn):
    """What a stamp that rises comes to: never beyond this time, the high turn from there."""
    if stamp is None or stamp[0] > time:
        return None
    return (stamp[0], min(stamp[1], turn))


def shown_tops(listener, heard):
    """Tops as they are told, of those that settled."""
    turn = high_turn(listener, [])
    return tuple([shown_top(stamp, turn) for stamp in heard])


def shown_top(stamp, turn):
    """A stamp of tops as it is told."""
    if stamp is None or stamp[1] < turn:
        return stamp
    return (stamp[0], None)


def are_tops(listener, place, value):
    """Whether any value is tops by which the station may not take its next item."""
    if not is_tuple_of(value, len(listener.lines)) or not all([is_top(top) for top in value]):
        return False
    turn = high_turn(listener, [top for top in value if top is not None and top[1] is not None])
    heard = tuple([top if top is None or top[1] is not None else (top[0], turn) for top in value])
    if not is_below(listener.heard_first(), heard) or listener.may_take(place, heard):
        return False
    return not any([rises(listener, heard, line, turn) for line in listener.lines])


def is_top(value):
    """Whether any value is a stamp, a stamp with the turn None, or None."""
    if value is None:
        return True
    return is_tuple_of(value, 2) and is_count(value[0]) and (value[1] is None or is_count(value[1]))


def rises(listener, heard, line, turn):
    """Whether a notice on a line tells more than the tops that it follows from."""
    top = heard[listener.lines.index(line)]
    stamp = listener.arrives(line, heard)
    if stamp is None or top is None:
        return is_less(top, stamp)
    return top < (stamp[0], min(stamp[1], turn))


def stamps_in_play(listener):
    """All stamps of a machine on which what will be heard rests."""
    machine = listener.machine
    stamps = [wire.hears for wire in machine.wires if wire.hears is not None]
    stamps.extend([last_stamp(wire, ever_sent(wire)) for wire in machine.wires if ever_sent(wire)])
    stamps.extend([change[0] for change in machine.changes])
    for place, _ in enumerate(machine.posts):
        stamps.extend([item[0] for item in items_at(machine, place)])
    return stamps


def longest_chain(listener):
    """How many events at most follow from one another, no handler or line twice."""
    model = listener.machine.model
    return len(model[2]) + sum([len(handlers_of(station)) for station in model[1]])


def longest_delay(listener):
    """How much time at most passes while events follow from one another, no handler or line twice."""
    machine = listener.machine
    size, stations, lines, _ = machine.model
    delays = [max([line[4], *[change[2] for change in changes_of(machine, number)]])
              for number, line in enumerate(lines)]
    return sum(delays) + size * sum([len(station[4]) for station in stations])


def high_turn(listener, others):
    """A turn above all that can come of those in play, and of these others, without a rise that never ends."""
    turns = [stamp[1] for stamp in [*stamps_in_play(listener), *others]]
    return max([0, *turns]) + 2 * longest_chain(listener) + 2


def high_time(listener):
    """A time above all that can come of those in play without a rise that never ends."""
    times = [stamp[0] for stamp in stamps_in_play(listener)]
    return max([0, *times]) + 2 * longest_delay(listener) + 2
