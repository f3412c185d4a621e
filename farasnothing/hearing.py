"""What would be heard if notices were sent, one behind the other, while nothing else is done.

Heard things are a tuple with a stamp, or None, for each line that is not inner.
"""

from farasnothing.boards import first_item_at, waiting_letters
from farasnothing.changing import arrival
from farasnothing.errors import BadCount, NoItem, OnWay
from farasnothing.knowing import edges_in, group_of, is_inner, is_too_little, lower_all, own_stamps, senders_on
from farasnothing.nevers import greater, is_less, least_of
from farasnothing.parts import find_line_into, handlers_of, in_rank_of, place_of, receiver_of, sender_of
from farasnothing.values import is_within

MOST_NOTICES = 8


class Listener:
    """Follows heard things of a machine on which nothing is on the way."""

    def __init__(self, machine):
        self.machine = machine
        self.lines = [line for line, _ in enumerate(machine.wires) if not is_inner(machine, line)]
        self.groups = [group_of(machine, place) for place, _ in enumerate(machine.posts)]
        self.edges = [edges_in(machine, group, machine.knows) for group in self.groups]
        self.owns = [own_stamps(machine, group) for group in self.groups]
        self.senders = [senders_on(machine, line, machine.knows) for line, _ in enumerate(machine.wires)]
        self.into = [self.lines_into_group(group) for group in self.groups]
        self.tables = {}

    def lines_into_group(self, group):
        """The lines that lead to a group from elsewhere."""
        return [line for line in self.lines if receiver_of(self.machine.model, line) in group]

    def heard_first(self):
        """The heard things of the machine."""
        return tuple([self.machine.wires[line].hears for line in self.lines])

    def table_at(self, place, heard):
        """The soonest stamps that those under the roof of a station know by heard things."""
        into = self.into[place]
        key = (self.groups[place][0], tuple([heard[self.lines.index(line)] for line in into]))
        if key not in self.tables:
            table = {handler: stamp for handler, stamp in self.owns[place].items()}
            for line, stamp in zip(into, key[1]):
                table[self.end_of(line)] = least_of([stamp, *self.waits_on(line)])
            while lower_all(self.machine, table, self.edges[place]):
                pass
            self.tables[key] = table
        return self.tables[key]

    def end_of(self, line):
        """The place and the rank of the handler at which a line ends."""
        return (receiver_of(self.machine.model, line), in_rank_of(self.machine.model, line))

    def waits_on(self, line):
        """The stamps of the letters that wait at the end of a line."""
        place, rank = self.end_of(line)
        port = rank - len(self.machine.model[1][place][4])
        return [letter[0] for letter in waiting_letters(self.machine, place, port)]

    def arrives(self, line, heard):
        """The least arrival on a line, as the station that sends on it knows it by heard things."""
        table = self.table_at(sender_of(self.machine.model, line), heard)
        return least_of([arrival(self.machine, line, table[key]) for key in self.senders[line]])

    def noted(self, heard, line):
        """What becomes of heard things by a notice on a line."""
        at = self.lines.index(line)
        stamp = greater(heard[at], self.arrives(line, heard))
        return (*heard[:at], stamp, *heard[at + 1:])

    def heard_of(self, line, heard):
        """What is heard of a line, inner or not, by heard things."""
        if line in self.lines:
            return heard[self.lines.index(line)]
        return greater(self.machine.wires[line].hears, self.arrives(line, heard))

    def may_take(self, place, heard):
        """Whether a station may take its next item, which it has, by heard things."""
        item = first_item_at(self.machine, place)
        station = self.machine.model[1][place]
        for rank, name in enumerate(handlers_of(station)):
            line = find_line_into(self.machine.model, place, name)
            if line is not None and is_too_little(self.heard_of(line, heard), rank, item):
                return False
        return True

    def further(self, level):
        """The greatest heard things that become of those of a level by one more notice."""
        found = {}
        for heard in level:
            for line in self.lines:
                found[self.noted(heard, line)] = True
        return greatest_of(list(found))


def greatest_of(rows):
    """Those of different heard things that are not below another one of them."""
    return [row for row in rows if not any([row != other and is_below(row, other) for other in rows])]


def is_below(heard, other):
    """Whether heard things are below others: each of their stamps is at most that of the others."""
    return not any([is_less(more, stamp) for stamp, more in zip(heard, other)])


def place_asked(machine, station, most):
    """The place of a station that is asked how few notices let it take; an error if there are no such notices."""
    place = place_of(machine.model, station)
    require_few(most)
    require_item(machine, station)
    return place


def require_few(value):
    """Raises BadCount for any value that is no number of notices that may be asked about."""
    if not is_within(value, MOST_NOTICES + 1):
        raise BadCount(value)


def require_item(machine, station):
    """Raises an error if something is on the way, or if the station has no item."""
    require_nothing_on_way(machine)
    if first_item_at(machine, place_of(machine.model, station)) is None:
        raise NoItem(station)


def require_nothing_on_way(machine):
    """Raises OnWay with the first line on which something is on the way."""
    for line, wire in enumerate(machine.wires):
        if wire.way:
            raise OnWay(line)
