"""Which changes of delays are let: those that touch nothing that was told or taken.

Whether a change is let depends on its stamp alone in one way: if it is let from a stamp, it is let from all greater
ones. So the least stamp from which it is let is found by halving.
"""

from farasnothing.changing import arrival, ever_sent, in_sequence, last_stamp
from farasnothing.knowing import alarm_after, edges_in, every_place, senders_on, soonest_by
from farasnothing.nevers import is_less, least_of
from farasnothing.parts import find_rank, in_rank_of, receiver_of, sender_of
from farasnothing.stamps import later


class Shift:
    """A change of a line to a delay, with a stamp that is not chosen yet."""

    def __init__(self, machine, line, delay):
        self.machine = machine
        self.line = line
        self.delay = delay
        words = machine.knows
        table = soonest_by(machine, every_place(machine), words)
        self.first = least_of([table[key] for key in senders_on(machine, line, words)])
        # A letter that comes of the first one on the line comes on it later; so it touches nothing that one does not.
        self.edges = [edge for edge in edges_in(machine, every_place(machine), words) if edge[3] != line]
        self.taken = [last_taken(machine, place) for place in every_place(machine)]

    def is_let(self, stamp):
        """Whether the change is let with this stamp."""
        last = self.taken[sender_of(self.machine.model, self.line)]
        if last is not None and last[0] >= stamp:
            return False
        if self.first is None:
            return True
        letters = self.letters_from(max(self.first, stamp))
        return not any([self.touches(line, arrives) for line, arrives in letters])

    def letters_from(self, stamp):
        """The least letters, as (line, stamp), that come of sending on the line from this stamp on."""
        begin = self.first_letter(stamp)
        table = {(receiver_of(self.machine.model, self.line), in_rank_of(self.machine.model, self.line)): begin}
        while self.lower_all(table):
            pass
        letters = [(line, self.after(table[cause], worth, line)) for cause, _, worth, line in self.edges
                   if line is not None and cause in table]
        return [(self.line, begin), *letters]

    def lower_all(self, table):
        """Lowers the stamps of what follows from those of a table; returns whether one became less."""
        lowered = False
        for cause, effect, worth, line in self.edges:
            if cause in table:
                follows = self.after(table[cause], worth, line)
                if is_less(follows, table.get(effect)):
                    table[effect] = follows
                    lowered = True
        return lowered

    def first_letter(self, stamp):
        """The stamp that the first letter has at least that is sent from this stamp on."""
        wire = self.machine.wires[self.line]
        last = last_stamp(wire, ever_sent(wire))
        arrives = later(stamp, self.delay)
        return arrives if last is None else max(arrives, last)

    def after(self, stamp, worth, line):
        """What follows from a stamp by an edge, whatever was heard."""
        return alarm_after(stamp, worth) if line is None else arrival(self.machine, line, stamp)

    def touches(self, line, stamp):
        """Whether a letter on a line is below what was told of it or ahead of what was taken."""
        if is_less(stamp, self.machine.wires[line].tells):
            return True
        last = self.taken[receiver_of(self.machine.model, line)]
        return last is not None and (stamp, in_rank_of(self.machine.model, line)) < last

    def least_let(self):
        """The least stamp from which the change is let, None without one."""
        times, turns = self.beyond()
        if not self.is_let((times, turns)):
            return None
        return self.least_turn(self.least_time(times, turns), turns)

    def beyond(self):
        """A time and a turn above all of what was told, taken or changed; greater ones make no difference."""
        stamps = [wire.tells for wire in self.machine.wires if wire.tells is not None]
        stamps.extend([last[0] for last in self.taken if last is not None])
        stamps.extend([change[0] for change in self.machine.changes])
        return max([0, *[stamp[0] for stamp in stamps]]) + 1, max([0, *[stamp[1] for stamp in stamps]]) + 1

    def least_time(self, times, turns):
        """The least time that with so great a turn is a stamp from which the change is let."""
        low = 0
        high = times
        while low < high:
            middle = (low + high) // 2
            if self.is_let((middle, turns)):
                high = middle
            else:
                low = middle + 1
        return low

    def least_turn(self, time, turns):
        """The stamp with this time and the least turn from which the change is let."""
        low = 0
        high = turns
        while low < high:
            middle = (low + high) // 2
            if self.is_let((time, middle)):
                high = middle
            else:
                low = middle + 1
        return (time, low)


def last_taken(machine, place):
    """The stamp and the rank of the last item that a station ever took, None without one."""
    post = machine.posts[place]
    if not post.ever:
        return None
    deed = post.ever[-1][0]
    return (deed[0], find_rank(machine.model[1][place], deed[2]))


def changed(machine, stamp, line, delay):
    """The changes of the machine if this one is made: it takes the place of those of the line that are not ahead."""
    stays = [change for change in machine.changes if change[1] != line or change[0] < stamp]
    return in_sequence([*stays, (stamp, line, delay)])
