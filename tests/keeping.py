"""Keepers at random, beside a keeper a row of machines that are given the same orders, journals read line by line."""

import random
import re

from farasnothing.errors import FarError
from farasnothing.keeper import Keeper
from farasnothing.machine import Machine
from farasnothing.models import is_model
from tests.driving import ALL, made_machine, order_for
from tests.wording import NAME, NUMBER, Bad, Text

KNOWING = '(?:delays|programs|states)'
STAMP = rf'{NUMBER}\.{NUMBER}'
FORMS = [f'come {NUMBER}', f'take {NAME}', f'note {NUMBER}', f'learn {NAME} {KNOWING}', f'unite {NAME} {NAME}', 'survey',
         f'picture {NAME}(?: {NAME})*', f'mark {NAME}', f'fall {NAME}(?: {NAME})*', 'forget', f'back {STAMP}',
         f'change {STAMP} {NUMBER} {NUMBER}']


def made_keeper(seed, **named):
    """A keeper with any words, roofs and lines that are not written."""
    machine = made_machine(seed, changes=False, **named)
    roofs = tuple([roof[::-1] for roof in machine.roofs if len(roof) > 1 or seed % 3 == 0])[::-1]
    return Keeper(machine.model, knows=machine.knows, roofs=roofs, unwritten=machine.unwritten[::-1])


def went_on(machine, many):
    """What go does, by its words: the deeds."""
    names = [station[0] for station in machine.model[1]]
    lines = range(len(machine.model[2]))
    deeds = []
    while len(deeds) < many and any([machine.waiting(name) for name in names] + [machine.on_way(line) for line in lines]):
        while any([machine.on_way(line) for line in lines]):
            for line in lines:
                while machine.on_way(line):
                    machine.come(line)
        may = [name for name in names if machine.may_take(name)]
        if may:
            deeds.append(machine.take(may[0]))
        elif any([machine.waiting(name) for name in names]):
            machine.survey()
    return tuple(deeds)


def given(machine, order):
    """Gives an order; ('done', what it returns) or ('refused', name of the error, its values)."""
    try:
        if order[0] == 'go':
            return ('done', went_on(machine, order[1]))
        return ('done', getattr(machine, order[0])(*order[1:]))
    except FarError as error:
        return ('refused', type(error).__name__, vars(error))


class Row:
    """The machines that there were, and which of them is the present one."""

    def __init__(self, keeper):
        self.machines = [keeper.machine_now()]
        self.at = 0

    def now(self):
        return self.machines[self.at]

    def copy(self):
        other = Row.__new__(Row)
        other.machines, other.at = list(self.machines), self.at
        return other

    def do(self, order):
        machine = self.now().copy()
        told = given(machine, order)
        if told[0] == 'done' and machine.log != self.now().log:
            self.machines = [*self.machines[:self.at + 1], machine]
            self.at += 1
        return told

    def undo(self):
        if not self.at:
            return ('refused', 'NothingToUndo', {})
        self.at -= 1
        return ('done', None)

    def redo(self):
        if self.at + 1 == len(self.machines):
            return ('refused', 'NothingToRedo', {})
        self.at += 1
        return ('done', None)


def told_by(keeper, order):
    """Gives a keeper an order, or go, undo, redo; as given."""
    try:
        if order[0] == 'go':
            return ('done', keeper.go(order[1]))
        if order[0] in ('undo', 'redo'):
            return ('done', getattr(keeper, order[0])())
        return ('done', keeper.do(order))
    except FarError as error:
        return ('refused', type(error).__name__, vars(error))


def any_order(machine, dice, kinds=ALL):
    """Any order, also one that is refused, or go, undo, redo."""
    kind = dice.random()
    if kind < 0.12:
        return ('undo',)
    if kind < 0.2:
        return ('redo',)
    if kind < 0.28:
        return ('go', dice.choice((0, 1, 1, 2, 3, 7)))
    if kind < 0.33:
        return dice.choice((('come', 99), ('take', 'nobody'), ('learn', machine.model[1][0][0], 'all'), ('note', -1),
                            ('fall', ()), ('picture', ('nobody',)), ('back', 3), ('mark', ''), ('unite', 's', 'nobody'),
                            ('change', (0, 0), 0, 21)))
    return order_for(machine, dice, kinds) or ('mark', machine.model[1][0][0])


def led_keeper(seed, many, kinds=ALL, **named):
    """A keeper that was led by so many orders, at most."""
    keeper = made_keeper(seed, **named)
    dice = random.Random(seed + 30)
    for _ in range(dice.randint(many // 2, many)):
        told_by(keeper, any_order(keeper.machine_now(), dice, kinds))
    return keeper


def line_of(order):
    """The line of an order, or of go, undo, redo."""
    parts = []
    for part in order[1:]:
        if isinstance(part, tuple) and part and isinstance(part[0], str):
            parts += part
        else:
            parts.append(f'{part[0]}.{part[1]}' if isinstance(part, tuple) else str(part))
    return ' '.join([order[0], *parts])


def order_in(line):
    """The order that a line of the right form tells."""
    word, *words = line.split(' ')
    if word in ('picture', 'fall'):
        return (word, tuple(words))
    parts = [tuple(map(int, one.split('.'))) if '.' in one else int(one) if one.isdigit() else one for one in words]
    return (word, *parts)


def journal_told(text):
    """What a journal tells, line by line: (name of the error, its value), or ('read', machine)."""
    rows = text.split('\n')
    told, at = Text(), 0
    try:
        while at < len(rows):
            told.line(rows[at])
            at += 1
    except Bad:
        pass
    begin = at
    forms = [f'knows {KNOWING}(?: {KNOWING})*', f'roof {NAME}(?: {NAME})*', f'unwritten {NUMBER}(?: {NUMBER})*', *FORMS]
    if not told.complete() or at == len(rows) or not re.fullmatch(forms[0], rows[at]):
        return ('BadText', at)
    stage = 0
    for at in range(begin + 1, len(rows)):
        found = [number for number, form in enumerate(forms) if re.fullmatch(form, rows[at])]
        if not found or found[0] == 0 or found[0] < stage or found[0] == stage == 2:
            return ('BadText', at)
        stage = min(found[0], 3)
    words = [row.split(' ') for row in rows[begin:]]
    roofs = tuple([tuple(one[1:]) for one in words if one[0] == 'roof'])
    unwritten = [tuple(map(int, one[1:])) for one in words if one[0] == 'unwritten']
    if not is_model(told.value()):
        return ('BadModel', told.value())
    try:
        machine = Machine(told.value(), knows=tuple(words[0][1:]), roofs=roofs, unwritten=unwritten[0] if unwritten else ())
    except FarError as error:
        return (type(error).__name__, error.value)
    for at in range(begin + 1 + len(roofs) + len(unwritten), len(rows)):
        if given(machine, order_in(rows[at]))[0] == 'refused':
            return ('BadText', at)
    return ('read', machine)
