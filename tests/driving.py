"""Machines that are made and driven at random."""

import random

from farasnothing.errors import (BadKnows, Behind, Forgotten, Inner, NoItem, NothingOnWay, TooEarly, UnderWay,
                                 Unreached, Waits)
from farasnothing.machine import Machine
from tests.samples import Maker, busy_model, net_model

WORDS = ('delays', 'programs', 'states')
PLAIN = ['take'] * 4 + ['mark'] * 2 + ['learn', 'unite', 'survey'] + ['come'] * 6 + ['note'] * 2
ALL = ['take'] * 16 + ['come'] * 20 + ['note'] * 5 + ['mark'] * 5 + ['learn', 'unite', 'forget'] + ['survey'] * 4 \
    + ['picture'] * 4 + ['fall', 'back'] + ['change'] * 4
FALLS = ['take'] * 16 + ['come'] * 20 + ['mark'] * 8 + ['survey'] * 4 + ['note'] * 2 + ['fall'] * 3 + ['forget']
RARE = ('learn', 'unite', 'survey', 'forget', 'back', 'fall')
REFUSED = (BadKnows, Behind, Forgotten, Inner, NoItem, NothingOnWay, TooEarly, UnderWay, Unreached, Waits)


def made_machine(seed, delays=(0, 0, 1, 2, 3, 7), changes=True, busy=False, **named):
    """A machine with any words, roofs, lines that are not written, and changes."""
    maker = Maker(seed)
    dice = maker.dice
    model = busy_model(seed, **named) if busy else maker.model(delays, **named)
    names = [station[0] for station in model[1]]
    dice.shuffle(names)
    roofs = []
    while names and dice.random() < 0.6:
        many = dice.randint(1, len(names))
        roofs.append(tuple(names[:many]))
        names = names[many:]
    lines = list(range(len(model[2])))
    dice.shuffle(lines)
    return Machine(model, knows=tuple([dice.choice(WORDS) for _ in model[1]]), roofs=tuple(roofs),
                   unwritten=tuple(lines[:dice.randint(0, len(lines))]),
                   changes=maker.changes(model) if changes and dice.random() < 0.5 else ())


def any_stamp(machine, dice):
    """A stamp near those of the machine."""
    stamps = [(0, 0)]
    for station in machine.model[1]:
        stamps += [item[0] for item in machine.waiting(station[0])]
        stamps += [deed[0] for deed in machine.deeds_of(station[0])[-8:]]
    time, turn = dice.choice(stamps)
    return (max(0, time + dice.randint(-1, 2)), max(0, turn + dice.randint(-1, 1)))


def some_of(stations, dice):
    """Some of the names, one at least, in any sequence."""
    return tuple(dice.sample(stations, dice.choice((1, 1, 1, 2, len(stations))) % len(stations) or len(stations)))


def order_for(machine, dice, kinds):
    """Any order, one that may be refused too."""
    stations = [station[0] for station in machine.model[1]]
    line = dice.randrange(len(machine.model[2])) if machine.model[2] else None
    station = dice.choice(stations)
    kind = dice.choice(kinds)
    if kind in RARE and dice.random() < 0.6 or kind in ('come', 'note', 'change') and line is None:
        return None
    if kind in ('come', 'note'):
        return (kind, line)
    if kind in ('take', 'mark'):
        return (kind, station)
    if kind == 'learn':
        return (kind, station, WORDS[dice.randint(WORDS.index(machine.knows[stations.index(station)]), 2)])
    if kind == 'unite':
        return (kind, station, dice.choice(stations))
    if kind in ('picture', 'fall'):
        return (kind, some_of(stations, dice))
    if kind == 'back':
        return (kind, any_stamp(machine, dice))
    if kind == 'change':
        return (kind, any_stamp(machine, dice), line, dice.choice((0, 0, 1, 2, 5, 20)))
    return (kind,)


def do_any(machine, dice, kinds=PLAIN):
    """Gives any order; returns it and what it returned, or None if it was refused."""
    order = order_for(machine, dice, kinds)
    if order is None:
        return None
    try:
        return order, getattr(machine, order[0])(*order[1:])
    except REFUSED:
        return None


def driven(seed, many, kinds=PLAIN, **named):
    """A machine that was driven for so many steps, at most."""
    machine = made_machine(seed, **named)
    dice = random.Random(seed + 1000)
    for _ in range(dice.randint(0, many)):
        do_any(machine, dice, kinds)
    return machine


def all_come(machine):
    """All that is on the way comes, and what is sent thereby."""
    lines = range(len(machine.model[2]))
    while any([machine.on_way(line) for line in lines]):
        for line in lines:
            if machine.on_way(line):
                machine.come(line)


def net_start(seed, **named):
    """A machine of a net in the beginning, with any words and changes, some with a roof."""
    model = net_model(seed, **named)
    dice = random.Random(seed + 7000)
    names = [station[0] for station in model[1]]
    changes = {}
    for _ in range(dice.choice((0, 0, 2, 4))):
        changes[dice.randrange(len(model[2])), (dice.randint(0, 60), dice.randint(0, 6))] = dice.choice((0, 1, 4))
    roofs = (tuple(dice.sample(names, min(2, len(names)))),) if dice.random() < 0.3 else ()
    return Machine(model, knows=tuple([dice.choice(WORDS) for _ in names]), roofs=roofs,
                   changes=tuple([(stamp, line, delay) for (line, stamp), delay in changes.items()]))
