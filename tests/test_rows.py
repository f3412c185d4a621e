"""Point 16: rows."""

import itertools
import random
import unittest

from farasnothing.errors import NoStation
from farasnothing.machine import Machine
from farasnothing.rows import row, shows_row
from tests.checks import Checks
from tests.driving import do_any, made_machine
from tests.samples import MODEL, any_values, part_at, paths_of, replaced

# Each station sends a letter to the next one for each letter that it gets from outside or from the one ahead.
PASS = (('send', 'o', 'it'),)


def chain(many=3, letters=3):
    """A model of stations in a row, and as many first letters at the first one."""
    stations = tuple([('s' + 'abcdef'[at], (), ('i',), ('o',), (), (PASS,)) for at in range(many)])
    lines = tuple([(stations[at][0], 'o', stations[at + 1][0], 'i', 1) for at in range(many - 1)])
    return (2, stations, lines, tuple([(time, 'sa', 'i', 1) for time in range(letters)]))


class Followed:
    """A machine, and for each mark what the station had sent and got at it, counted from outside."""

    def __init__(self, machine):
        self.machine = machine
        self.names = [station[0] for station in machine.model[1]]
        self.lines = machine.model[2]
        self.came = [0 for _ in self.lines]
        self.marks = {name: {} for name in self.names}
        for name in self.names:
            self.mark(name)

    def sent(self, name, line, many=None):
        """How many letters a station had sent on a line by so many deeds."""
        deeds = self.machine.deeds_of(name)[:many]
        return len([letter for deed in deeds for letter in deed[4] if letter[0] == line])

    def mark(self, name):
        into = {line: self.came[line] for line, told in enumerate(self.lines) if told[2] == name}
        self.marks[name][len(self.machine.deeds_of(name))] = into

    def look(self):
        """Follows what was done last."""
        done = self.machine.log[-1]
        if done[0] == 'mark':
            self.mark(done[1])

    def stands_together(self, told):
        for line, (sender, _, receiver, _, _) in enumerate(self.lines):
            back = told[self.names.index(receiver)]
            if line not in self.machine.unwritten or back is None:
                continue
            came = self.marks[receiver][back][line]
            if self.came[line] > came and self.sent(sender, line, told[self.names.index(sender)]) > came:
                return False
        return True

    def greatest(self, stations):
        """The greatest row, by trying all."""
        choices = []
        for name in self.names:
            marks = sorted(self.marks[name])
            choices.append(marks if name in stations else [*marks, None])
        rows = [told for told in itertools.product(*choices) if self.stands_together(told)]
        greater = [max(column, key=lambda many: 10 ** 9 if many is None else many) for column in zip(*rows)]
        assert tuple(greater) in rows
        return tuple(greater)


def followed(seed, many=120):
    """A machine that was driven, and followed from outside."""
    dice = random.Random(seed + 2000)
    machine = made_machine(seed, delays=(0, 1, 2))
    told = Followed(machine)
    for _ in range(dice.randint(0, many)):
        ways = [machine.on_way(line) for line, _ in enumerate(machine.model[2])]
        before = len(machine.log)
        do_any(machine, dice)
        if len(machine.log) > before:
            done = machine.log[-1]
            if done[0] == 'come' and ways[done[1]][0][0] == 'letter':
                told.came[done[1]] += 1
            told.look()
    return machine, told, dice


def other_steps(machine, told, stations, dice):
    """Steps made in another sequence, by what was followed from outside."""
    names = told.names
    stand = [None for _ in names]
    steps = []
    for name in names:
        if name in stations:
            stand[names.index(name)] = max(told.marks[name])
            steps.append((name, max(told.marks[name]), None))
    while True:
        pulls = []
        for line in machine.unwritten:
            sender, receiver = told.lines[line][0], told.lines[line][2]
            back = stand[names.index(receiver)]
            if back is None:
                continue
            came = told.marks[receiver][back][line]
            if told.came[line] > came and told.sent(sender, line, stand[names.index(sender)]) > came:
                back = [many for many in told.marks[sender] if told.sent(sender, line, many) <= came]
                pulls.append((sender, max(back), line))
        if not pulls:
            return (tuple(stand), tuple(steps))
        steps.append(dice.choice(pulls))
        stand[names.index(steps[-1][0])] = steps[-1][1]


class Rows(Checks, unittest.TestCase):

    def far(self):
        """A machine of a chain: all was taken and came, and all have marks behind each deed; nothing is written."""
        machine = Machine(chain(), unwritten=(0, 1))
        for _ in range(3):
            machine.take('sa')
            machine.mark('sa')
            for name, line in (('sb', 0), ('sc', 1)):
                machine.come(line)
                machine.take(name)
                machine.mark(name)
        return machine

    def test_the_example(self):
        machine = Machine(MODEL, unwritten=(0,))
        told = [machine.take('tap')[0], machine.take('tap')[0], machine.come(0), machine.mark('tap')]
        self.assertEqual(told, [(0, 0), (2, 0), ('letter', (6, 0), 4), None])
        self.assertEqual(row(machine, ('sink',)), ((0, 0), (('sink', 0, None), ('tap', 0, 0))))
        self.assertEqual(row(machine, ('tap',)), ((2, None), (('tap', 2, None),)))

    def test_driven_machines(self):
        pulled = 0
        for seed in range(400):
            machine, told, dice = followed(seed)
            for many in range(1, len(told.names) + 1):
                stations = tuple(dice.sample(told.names, many))
                answer = row(machine, stations)
                self.assertEqual(answer[0], told.greatest(stations))
                self.assertIs(shows_row(machine, stations, answer), True)
                pulled += len(answer[1]) > many
                self.assertIs(shows_row(machine, stations, other_steps(machine, told, stations, dice)), True)
                first = [(name, max(told.marks[name]), None) for name in told.names if name in stations]
                self.assertEqual(answer[1][:many], tuple(first))
                self.change_one_thing(machine, stations, answer, dice)
        self.assertGreater(pulled, 30)

    def change_one_thing(self, machine, stations, answer, dice):
        told, steps = answer
        at = dice.randrange(len(steps))
        if at < len(stations) or at == len(steps) - 1:
            # A step between them may be left out if a later one brings its station further back anyway.
            self.assertIs(shows_row(machine, stations, (told, steps[:at] + steps[at + 1:])), False)
        self.assertIs(shows_row(machine, stations, (told, steps[:at] + steps[at:at + 1] + steps[at:])), False)
        place = dice.randrange(len(told))
        for other in (0, 1, None, True, False, told):
            if other is not told[place]:
                self.assertIs(shows_row(machine, stations, (replaced(told, (place,), other), steps)), False)
        name, many, line = steps[at]
        for step in ((name, many + 1, line), (name, many - 1, line), (name, bool(many), line), (name, None, line),
                     (name, many, -1), (name, many), (name, many, line, 0), [name, many, line], (None, many, line),
                     (name, many, True), (name, many, False), (name, many, [])):
            self.assertIs(shows_row(machine, stations, (told, replaced(steps, (at,), step))), False, step)

    def test_a_chain_that_is_not_written(self):
        machine = self.far()
        self.assertEqual(row(machine, ('sc',)), ((None, None, 3), (('sc', 3, None),)))
        late = Machine(chain(), unwritten=(1, 0))
        for _ in range(3):
            late.take('sa')
            late.mark('sa')
            late.come(0)
            late.take('sb')
            late.come(1)
        self.assertEqual(row(late, ('sc',)), ((0, 0, 0), (('sc', 0, None), ('sb', 0, 1), ('sa', 0, 0))))
        self.assertEqual(row(late, ('sb',)), ((0, 0, None), (('sb', 0, None), ('sa', 0, 0))))
        self.assertEqual(row(late, ('sa',)), ((3, None, None), (('sa', 3, None),)))
        self.assertEqual(row(late, ('sc', 'sa')), ((0, 0, 0), (('sa', 3, None), ('sc', 0, None), ('sb', 0, 1),
                                                              ('sa', 0, 0))))

    def test_lines_that_are_written(self):
        machine = Machine(chain())
        machine.take('sa')
        machine.come(0)
        machine.take('sb')
        machine.come(1)
        self.assertEqual(row(machine, ('sb', 'sc')), ((None, 0, 0), (('sb', 0, None), ('sc', 0, None))))
        half = Machine(chain(), unwritten=(1,))
        half.take('sa')
        half.come(0)
        half.take('sb')
        self.assertEqual(row(half, ('sc',)), ((None, None, 0), (('sc', 0, None),)))
        half.come(1)
        self.assertEqual(row(half, ('sc',)), ((None, 0, 0), (('sc', 0, None), ('sb', 0, 1))))

    def test_all_that_came_by_the_mark_is_not_sent_again(self):
        machine = Machine(chain(2), unwritten=(0,))
        for _ in range(2):
            machine.take('sa')
            machine.come(0)
            machine.mark('sa')
        machine.mark('sb')
        machine.take('sa')
        self.assertEqual(row(machine, ('sb',)), ((None, 0), (('sb', 0, None),)))
        machine.mark('sa')
        machine.come(0)
        self.assertEqual(row(machine, ('sb',)), ((2, 0), (('sb', 0, None), ('sa', 2, 0))))

    def test_a_line_from_a_station_to_itself(self):
        station = ('s', (), ('i', 'j'), ('o',), (), ((('send', 'o', 1),), ()))
        model = (2, (station,), (('s', 'o', 's', 'j', 5),), ((0, 's', 'i', 0), (1, 's', 'i', 0)))
        machine = Machine(model, unwritten=(0,))
        machine.survey()
        machine.take('s')
        machine.mark('s')
        self.assertEqual(row(machine, ('s',)), ((1,), (('s', 1, None),)))
        machine.come(0)
        self.assertEqual(row(machine, ('s',)), ((0,), (('s', 1, None), ('s', 0, 0))))
        self.assertIs(shows_row(machine, ('s',), ((0,), (('s', 1, None), ('s', 0, 0)))), True)
        self.assertIs(shows_row(machine, ('s',), ((1,), (('s', 1, None),))), False)

    def test_steps_that_need_not_be(self):
        machine = self.far()
        for steps in ((('sc', 3, None), ('sb', 3, 1)), (('sc', 3, None), ('sb', 2, 1)), (('sc', 2, None),), (),
                      (('sc', 3, None), ('sc', 3, None)), (('sc', 3, None), ('sb', 3, None)), (('sc', 3, 1),)):
            for told in ((None, None, 3), (None, 3, 3), (None, 2, 3), (None, None, 2)):
                self.assertIs(shows_row(machine, ('sc',), (told, steps)), False)

    def test_another_sequence(self):
        stations = (('s', (), ('i',), ('o', 'p'), (), ((('send', 'o', 1), ('send', 'p', 1)),)),
                    ('t', (), ('i', 'j'), ('o',), (), ((), (('send', 'o', 1),))), ('u', (), ('i',), (), (), ((),)))
        lines = (('s', 'o', 't', 'i', 1), ('s', 'p', 'u', 'i', 1))
        machine = Machine((2, stations, lines, ((0, 's', 'i', 1), (1, 's', 'i', 1))), unwritten=(0, 1))
        for _ in range(2):
            machine.take('s')
            machine.mark('s')
        machine.come(0)
        machine.mark('t')
        machine.come(0)
        machine.come(1)
        begin = (('t', 0, None), ('u', 0, None))
        self.assertEqual(row(machine, ('u', 't'))[0], (0, 0, 0))
        for steps, shows in (((('s', 1, 0), ('s', 0, 1)), True), ((('s', 0, 1),), True), ((('s', 1, 0),), False),
                             ((('s', 0, 1), ('s', 1, 0)), False), ((('s', 0, 0),), False), ((('s', 1, 1),), False)):
            self.assertIs(shows_row(machine, ('u', 't'), ((0, 0, 0), begin + steps)), shows, steps)
        self.assertIs(shows_row(machine, ('u', 't'), ((0, 0, 0), begin[::-1] + (('s', 0, 1),))), False)

    def test_nothing_is_changed(self):
        machine = self.far()
        before = machine.copy()
        row(machine, ('sb', 'sc'))
        shows_row(machine, ('sb',), row(machine, ('sb',)))
        self.assertEqual(machine, before)
        self.assertEqual(machine.log, before.log)

    def test_named_arguments(self):
        machine = Machine(MODEL)
        told = row(stations=('sink',), machine=machine)
        self.assertEqual(told, ((None, 0), (('sink', 0, None),)))
        self.assertIs(shows_row(value=told, stations=('sink',), machine=machine), True)

    def test_wrong_stations(self):
        machine = Machine(MODEL)
        for act, more in ((row, ()), (shows_row, (None,))):
            for value in any_values():
                if not isinstance(value, tuple) or not value or value == ('tap', 'tap'):
                    self.assertRaisesWith(NoStation, value, act, machine, value, *more)
                elif value != ('tap',):
                    self.assertRaisesWith(NoStation, value[0], act, machine, value, *more)
                if value != 'tap':
                    stations = ('tap', value, 'other')
                    self.assertRaisesWith(NoStation, value, act, machine, stations, *more)
            twice = ('tap', 'sink', 'tap')
            self.assertRaisesWith(NoStation, twice, act, machine, twice, *more)
            wrong_too = ('tap', 'tap', 'other')
            self.assertRaisesWith(NoStation, wrong_too[2], act, machine, wrong_too, *more)

    def test_any_value_shows_no_row(self):
        machine = Machine(chain(), unwritten=(0, 1))
        machine.take('sa')
        machine.mark('sa')
        machine.come(0)
        answer = row(machine, ('sb',))
        self.assertEqual(answer, ((0, 0, None), (('sb', 0, None), ('sa', 0, 0))))
        for value in any_values():
            self.assertIs(shows_row(machine, ('sb',), value), False)
            for at in range(3):
                steps = answer[1][:at] + (value,) + answer[1][at:]
                self.assertIs(shows_row(machine, ('sb',), (answer[0], steps)), False)
        for step in (('sa', 0, 0), ('sb', 0, None), ('sa', None, 0), ('sa', 0, None), ('sb', 0, 1), ('sa', False, 0)):
            self.assertIs(shows_row(machine, ('sb',), (answer[0], answer[1] + (step,))), False)
        for path in paths_of(answer):
            part = part_at(answer, path)
            for value in [*any_values(), False, list(part) if isinstance(part, tuple) else None]:
                told = shows_row(machine, ('sb',), replaced(answer, path, value))
                self.assertIs(told, type(value) is type(part) and value == part, (path, value))


if __name__ == '__main__':
    unittest.main()
