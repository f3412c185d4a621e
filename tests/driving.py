"""Machines that are made and driven at random."""

import random

from farasnothing.errors import Inner, NoItem, NothingOnWay, Waits
from farasnothing.machine import Machine
from tests.samples import Maker

WORDS = ('delays', 'programs', 'states')


def made_machine(seed, delays=(0, 0, 1, 2, 3, 7), changes=True):
    """A machine with any words, roofs, lines that are not written, and changes."""
    maker = Maker(seed)
    dice = maker.dice
    model = maker.model(delays)
    names = [station[0] for station in model[1]]
    dice.shuffle(names)
    roofs = []
    while names and dice.random() < 0.6:
        many = dice.randint(1, len(names))
        roofs.append(tuple(names[:many]))
        names = names[many:]
    lines = list(range(len(model[2])))
    dice.shuffle(lines)
    return Machine(model, knows=tuple([dice.choice(WORDS) for _ in model[1]]), roofs=tuple(roofs),
                   unwritten=tuple(lines[:dice.randint(0, len(lines))]),
                   changes=maker.changes(model) if changes and dice.random() < 0.5 else ())


def do_any(machine, dice):
    """Does one thing, whatever may be done; returns what it was."""
    model = machine.model
    station = dice.choice(model[1])[0]
    line = dice.randrange(len(model[2])) if model[2] else None
    deed = dice.choice(['take'] * 4 + ['mark'] * 2 + ['learn', 'unite', 'survey'] + ['come'] * 6 + ['note'] * 2)
    if deed in ('learn', 'unite') and dice.random() < 0.8:
        return deed
    if deed in ('come', 'note') and line is None:
        return deed
    try:
        if deed == 'take':
            machine.take(station)
        elif deed == 'come':
            machine.come(line)
        elif deed == 'note':
            machine.note(line)
        elif deed == 'mark':
            machine.mark(station)
        elif deed == 'learn':
            place = [one[0] for one in model[1]].index(station)
            machine.learn(station, WORDS[dice.randint(WORDS.index(machine.knows[place]), 2)])
        elif deed == 'unite':
            machine.unite(station, dice.choice(model[1])[0])
        else:
            machine.survey()
    except (NoItem, Waits, NothingOnWay, Inner):
        pass
    return deed


def driven(seed, many, **named):
    """A machine that was driven for so many steps, at most."""
    machine = made_machine(seed, **named)
    dice = random.Random(seed + 1000)
    for _ in range(dice.randint(0, many)):
        do_any(machine, dice)
    return machine
