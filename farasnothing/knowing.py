"""What is known of how far nothing can come.

A group is a list of places of stations. A table of a group has a stamp, or None, for each handler (place, rank).
"""

from farasnothing.actors import state_now
from farasnothing.boards import waiting_letters
from farasnothing.changing import arrival
from farasnothing.nevers import greater, is_less, least_of
from farasnothing.parts import find_line_from, find_line_into, find_place, find_rank
from farasnothing.parts import handlers_of, in_rank_of, place_of, receiver_of, sender_of
from farasnothing.stamps import later


def known(machine, station):
    """The soonest stamps of the station's handlers, by rank, as known under its roof."""
    place = place_of(machine.model, station)
    table = soonest_under(machine, group_of(machine, place))
    return tuple([table[place, rank] for rank, _ in enumerate(handlers_of(machine.model[1][place]))])


def group_of(machine, place):
    """The places of all stations under the roof of the station at this place."""
    name = machine.model[1][place][0]
    roof = [one for one in machine.roofs if name in one][0]
    return [find_place(machine.model[1], one) for one in roof]


def is_inner(machine, line):
    """Whether the line begins and ends under one roof."""
    return receiver_of(machine.model, line) in group_of(machine, sender_of(machine.model, line))


def soonest_under(machine, group):
    """The table of soonest stamps of a group, each station by its own word."""
    return soonest_by(machine, group, machine.knows)


def soonest_by(machine, group, words):
    """The table of soonest stamps of a group, each station by its word."""
    table = own_stamps(machine, group)
    edges = edges_in(machine, group, words)
    # What an event causes is later than it is, so the stamps come to rest after as many rounds as there are handlers.
    while lower_all(machine, table, edges):
        pass
    return table


def every_place(machine):
    """The places of all stations, as a group."""
    return list(range(len(machine.posts)))


def edges_in(machine, group, words):
    """What handlers of the group can cause in it, each station by its word, as edges_of tells it."""
    edges = []
    for place in group:
        edges.extend(edges_of(machine, group, place, words[place]))
    return edges


def lower_all(machine, table, edges):
    """Lowers each stamp of the table to what follows from the others; returns whether one became less."""
    lowered = False
    for cause, effect, worth, line in edges:
        follows = follows_from(machine, table[cause], worth, line)
        if is_less(follows, table[effect]):
            table[effect] = follows
            lowered = True
    return lowered


def follows_from(machine, stamp, worth, line):
    """The stamp that follows by an edge from that of the handler at its beginning."""
    return alarm_after(stamp, worth) if line is None else letter_after(machine, line, stamp)


def alarm_after(stamp, worth):
    """When an alarm rings that a handler sets with this worth at this stamp."""
    return None if stamp is None else later(stamp, worth)


def letter_after(machine, line, stamp):
    """The least stamp of a letter on a line of the group, sent at this stamp, that agrees with what was heard."""
    return greater(machine.wires[line].hears, arrival(machine, line, stamp))


def edges_of(machine, group, place, word):
    """What handlers of a station can cause in the group: (handler, handler, worth, None) or (.., .., 0, line)."""
    station = machine.model[1][place]
    edges = []
    for rank, (outs, waits) in enumerate(abilities(machine, place, word)):
        for alarm, worth in waits:
            edges.append(((place, rank), (place, find_rank(station, alarm)), worth, None))
        for line in lines_from(machine, place, outs):
            other = receiver_of(machine.model, line)
            if other in group:
                edges.append(((place, rank), (other, in_rank_of(machine.model, line)), 0, line))
    return edges


def abilities(machine, place, word):
    """What the handlers of a station can do, by a word of knowing."""
    return machine.actors[place].able(word, state_now(machine, place))


def lines_from(machine, place, outs):
    """The lines from these outs of a station."""
    lines = [find_line_from(machine.model, place, out) for out in outs]
    return [line for line in lines if line is not None]


def own_stamps(machine, group):
    """The table of the own stamps of the handlers of a group."""
    table = {}
    for place in group:
        station = machine.model[1][place]
        for rank, stamp in enumerate(machine.posts[place].rings):
            table[place, rank] = stamp
        for port, _ in enumerate(station[2]):
            table[place, len(station[4]) + port] = own_stamp(machine, group, place, port)
    return table


def own_stamp(machine, group, place, port):
    """The own stamp of the handler of an in, as a group that has the station knows it."""
    stamps = [letter[0] for letter in waiting_letters(machine, place, port)]
    line = find_line_into(machine.model, place, machine.model[1][place][2][port])
    if line is None:
        return least_of(stamps)
    if sender_of(machine.model, line) in group:
        return least_of([*stamps, *stamps_on_way(machine, line)])
    return least_of([machine.wires[line].hears, *stamps])


def stamps_on_way(machine, line):
    """The stamps of the letters that are on the way on a line."""
    return [told[1] for told in machine.wires[line].way if told[0] == "letter"]


def senders_on(machine, line, words):
    """The handlers that can send on the line, each station by its word."""
    place = sender_of(machine.model, line)
    table = abilities(machine, place, words[place])
    return [(place, rank) for rank, (outs, _) in enumerate(table) if machine.model[2][line][1] in outs]


def least_arrival(machine, line, table, words):
    """The least arrival of the soonest stamps of the handlers that can send on the line, each station by its word."""
    return least_of([arrival(machine, line, table[key]) for key in senders_on(machine, line, words)])


def arrives_first(machine, line):
    """The least arrival on a line, as those know it who stand under the roof of the station that sends on it."""
    table = soonest_under(machine, group_of(machine, sender_of(machine.model, line)))
    return least_arrival(machine, line, table, machine.knows)


def bound_under(machine, line):
    """The bound of an inner line, as those under the roof know it."""
    return least_of([arrives_first(machine, line), *stamps_on_way(machine, line)])


def heard_now(machine, line):
    """What is heard of a line at this moment."""
    heard = machine.wires[line].hears
    return greater(heard, bound_under(machine, line)) if is_inner(machine, line) else heard


def line_waited_for(machine, place, item):
    """The line into the first in, by rank, of which too little was heard to take the item; None if there is none."""
    station = machine.model[1][place]
    for port, name in enumerate(station[2]):
        line = find_line_into(machine.model, place, name)
        if line is not None and is_too_little(heard_now(machine, line), len(station[4]) + port, item):
            return line
    return None


def is_too_little(heard, rank, item):
    """Whether a letter to the handler with this rank can come ahead of the item, by what is heard of its line."""
    if heard is None:
        return False
    return heard < item[0] or (heard == item[0] and rank < item[1])


def surveyed(machine):
    """For each line its bound as all know it, each station by its own word, if they tell one another everything."""
    table = soonest_under(machine, every_place(machine))
    return [bound_by(machine, line, table, machine.knows) for line, _ in enumerate(machine.wires)]


def bound_by(machine, line, table, words):
    """The bound of a line, by a table of all stations."""
    further = greater(machine.wires[line].hears, least_arrival(machine, line, table, words))
    return least_of([further, *stamps_on_way(machine, line)])
