"""Heard things and what follows from them once more, by a plain machine."""

import copy
import random

from tests.driving import do_any, net_start
from tests.plain import NEVER, PlainMachine, WORDS, told

FAR = 10 ** 7  # a turn that is greater than all integers


def stamps_of(heard):
    """Heard things with never, and turns that are None, as stamps that can be compared."""
    return tuple([NEVER if one is None else (one[0], FAR) if one[1] is None else one for one in heard])


def is_below(heard, other):
    return all([one <= more for one, more in zip(stamps_of(heard), stamps_of(other))])


class Heard:

    def __init__(self, plain):
        self.plain = plain
        self.lines = [line for line, _ in enumerate(plain.ends) if not plain.inner(line)]
        self.first = tuple([told(plain.now[plain.ends[line][2]].heard[line]) for line in self.lines])

    def put(self, heard):
        for line, stamp in zip(self.lines, stamps_of(heard)):
            self.plain.now[self.plain.ends[line][2]].heard[line] = stamp

    def follows(self, heard, line):
        """What becomes of heard things by a notice on a line."""
        self.put(heard)
        at = self.lines.index(line)
        stamp = self.plain.promise(line)
        if stamp is not None and stamp[1] >= FAR:
            stamp = (stamp[0], None)
        if stamps_of([stamp])[0] <= stamps_of(heard)[at]:
            return heard
        return heard[:at] + (stamp,) + heard[at + 1:]

    def goes(self, heard, name):
        self.put(heard)
        return self.plain.may_take(name)

    def least(self, name, most):
        """The least tuple of as few lines as can be, None of more than most; by trying all."""
        level = {self.first: ()}
        for _ in range(most + 1):
            for heard, lines in sorted(level.items(), key=lambda pair: pair[1]):
                if self.goes(heard, name):
                    return lines
            further = {}
            for heard, lines in sorted(level.items(), key=lambda pair: pair[1]):
                for line in self.lines:
                    further.setdefault(self.follows(heard, line), (*lines, line))
            level = further
        return None

    def are_levels(self, levels, name, many):
        if len(levels) != many or any([self.goes(heard, name) for level in levels for heard in level]):
            return False
        ahead = [self.first]
        for level in levels:
            if not all([any([is_below(heard, other) for other in level]) for heard in ahead]):
                return False
            ahead = [self.follows(heard, line) for heard in level for line in self.lines]
        return True

    def are_tops(self, tops, name):
        if not is_below(self.first, tops) or self.goes(tops, name):
            return False
        return all([self.follows(tops, line) == tops for line in self.lines])

    def let(self, lines, name):
        heard = self.first
        for line in lines:
            heard = self.follows(heard, line)
        return self.goes(heard, name)


def net_pair(seed, steps=12, **named):
    """A machine of a net on which nothing is on the way, and a plain one that was led likewise."""
    machine = net_start(seed, **named)
    plain = PlainMachine(machine.model, machine.knows, machine.roofs, machine.unwritten, machine.changes)
    dice = random.Random(seed + 900)
    for _ in range(dice.choice((0, 0, steps))):
        done = do_any(machine, dice, ['take'] * 3 + ['come'] * 4 + ['note', 'survey'])
        if done:
            plain.do(done[0])
    for line, _ in enumerate(machine.model[2]):
        while machine.on_way(line):
            machine.come(line)
            plain.come(line)
    return machine, plain


def arranged(machine, arrangement):
    """A copy of a machine, plain or not, by an arrangement."""
    other = copy.deepcopy(machine) if isinstance(machine, PlainMachine) else machine.copy()
    ends = machine.model[2]
    for station, word, knows in zip(machine.model[1], arrangement[0], tuple(machine.knows)):
        other.learn(station[0], WORDS[max(WORDS.index(word), WORDS.index(knows))])
    for line in arrangement[1]:
        other.unite(ends[line][0], ends[line][2])
    return other


def arranged_pair(machine, plain, arrangement):
    """Both by an arrangement."""
    return arranged(machine, arrangement), arranged(plain, arrangement)
