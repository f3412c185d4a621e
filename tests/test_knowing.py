"""Point 10: what is known under a roof; the arrival of point 18."""

import unittest

from farasnothing.errors import NoStation
from farasnothing.knowing import known
from farasnothing.machine import Machine
from tests import oracle
from tests.checks import Checks
from tests.driving import WORDS, driven
from tests.samples import MODEL, RING, Maker, any_values

NEVER = (10 ** 9, 0)


def stamp_or_never(stamp):
    return NEVER if stamp is None else stamp


class Plain:
    """What section 10 says of a machine, by what its methods tell."""

    def __init__(self, machine):
        self.machine = machine
        self.size, self.stations, self.lines, self.first = machine.model
        self.names = [station[0] for station in self.stations]

    def group(self, station):
        return [roof for roof in self.machine.roofs if station in roof][0]

    def can(self, station):
        """For each handler the outs and the (alarm, worth) that it can do."""
        whole = self.stations[self.names.index(station)]
        word = self.machine.knows[self.names.index(station)]
        handlers = whole[4] + whole[2]
        if word == 'delays':
            return [(whole[3], tuple([(alarm, 0) for alarm in whole[4]])) for _ in handlers]
        states = oracle.states_of(self.size, whole)
        if word == 'states':
            names = [item[1] for item in self.machine.waiting(station)]
            alarms = tuple([alarm for alarm in whole[4] if alarm in names])
            states = oracle.closed(self.size, whole, (self.machine.worths(station), alarms))
        return oracle.reacted(self.size, whole, states)

    def arrival(self, line, stamp):
        """By trying all stamps at which the delay can become another one."""
        if stamp == NEVER:
            return NEVER
        changes = [change for change in self.machine.changes if change[1] == line]
        found = []
        for at in [stamp, *[change[0] for change in changes if change[0] > stamp]]:
            told = [change for change in changes if change[0] <= at]
            found.append(oracle.after(at, max(told)[2] if told else self.lines[line][4]))
        sent = [letter[2] for deed in self.machine.deeds_of(self.lines[line][0]) for letter in deed[4]
                if letter[0] == line]
        return max([min(found), *sent])

    def heard(self, line):
        """What was heard of a line as of other lines: by what came and by surveys, as the machine keeps it."""
        return stamp_or_never(self.machine.wires[line].hears)

    def own(self, group, station, name):
        waits = [item[0] for item in self.machine.waiting(station) if item[1] == name]
        for number, line in enumerate(self.lines):
            if line[2:4] == (station, name):
                if line[0] in group:
                    waits += [told[1] for told in self.machine.on_way(number) if told[0] == 'letter']
                else:
                    waits.append(self.heard(number))
        return min([NEVER, *waits])

    def causes(self, group, station, name, table):
        """The stamps that (ii) and (iii) tell of a handler, each with the handler that it follows from."""
        whole = self.stations[self.names.index(station)]
        found = []
        for other in group:
            theirs = self.stations[self.names.index(other)]
            for handler, (outs, waits) in zip(theirs[4] + theirs[2], self.can(other)):
                cause = table[other, handler]
                if other == station and name in whole[4]:
                    found += [(NEVER if cause == NEVER else oracle.after(cause, worth), (other, handler))
                              for alarm, worth in waits if alarm == name]
                for number, line in enumerate(self.lines):
                    if line[:1] + line[2:4] == (other, station, name) and line[1] in outs:
                        found.append((max(self.heard(number), self.arrival(number, cause)), (other, handler)))
        return found


class Knowing(Checks, unittest.TestCase):

    def assertGreatest(self, machine):
        """The tables keep (i) to (iii); each stamp is an own one or follows from a lesser one, so none is greater."""
        plain = Plain(machine)
        for group in machine.roofs:
            table = {}
            for station in group:
                whole = plain.stations[plain.names.index(station)]
                told = known(machine, station)
                self.assertEqual(len(told), len(whole[4] + whole[2]))
                table.update({(station, name): stamp_or_never(stamp)
                              for name, stamp in zip(whole[4] + whole[2], told)})
            for (station, name), stamp in table.items():
                own, causes = plain.own(group, station, name), plain.causes(group, station, name, table)
                self.assertEqual(stamp, min([own] + [follows for follows, _ in causes]))
                if stamp != own:
                    self.assertTrue([cause for follows, cause in causes if follows == stamp and table[cause] < stamp])

    def test_driven_machines(self):
        for seed in range(250):
            self.assertGreatest(driven(seed, 60))

    def test_each_word(self):
        for seed in range(60):
            machine = driven(seed, 25)
            for word in WORDS[1:]:
                before = {station[0]: known(machine, station[0]) for station in machine.model[1]}
                for station, knows in zip(machine.model[1], machine.knows):
                    if WORDS.index(knows) < WORDS.index(word):
                        machine.learn(station[0], word)
                self.assertGreatest(machine)
                for station, told in before.items():
                    for stamp, now in zip(told, known(machine, station)):
                        self.assertLessEqual(stamp_or_never(stamp), stamp_or_never(now))

    def test_all_under_one_roof(self):
        for seed in range(60):
            machine = driven(seed, 25)
            for station in machine.model[1]:
                machine.unite(machine.model[1][0][0], station[0])
            self.assertEqual(len(machine.roofs), 1)
            self.assertGreatest(machine)

    def test_a_station_alone(self):
        machine = Machine(MODEL)
        self.assertEqual(known(machine, 'tap'), ((0, 1), (0, 0)))
        self.assertEqual(known(machine, 'sink'), ((0, 0),))
        machine.learn('tap', 'programs')
        self.assertEqual(known(machine, 'tap'), ((3, 0), (0, 0)))
        machine.take('tap')
        self.assertEqual(known(machine, 'tap'), ((3, 0), (2, 0)))
        machine.take('tap')
        self.assertEqual(known(machine, 'tap'), ((3, 0), None))
        machine.note(0)
        self.assertEqual(known(machine, 'sink'), ((0, 0),))
        self.assertEqual([machine.come(0), known(machine, 'sink')], [('letter', (6, 0), 4), ((6, 0),)])
        machine.take('sink')
        self.assertEqual([machine.come(0), known(machine, 'sink')], [('notice', (7, 0)), ((7, 0),)])
        machine.take('tap')
        machine.come(0)
        machine.note(0)
        self.assertEqual([machine.come(0), known(machine, 'sink')], [('notice', None), ((7, 0),)])
        machine.take('sink')
        self.assertEqual(known(machine, 'sink'), (None,))

    def test_stations_under_one_roof(self):
        machine = Machine(MODEL, roofs=(('sink', 'tap'),))
        self.assertEqual(known(machine, 'sink'), ((4, 0),))
        for _ in range(2):
            machine.take('tap')
        self.assertEqual([machine.on_way(0), known(machine, 'sink')], [(('letter', (6, 0), 4),), ((6, 0),)])
        machine.come(0)
        self.assertEqual([machine.heard(0), known(machine, 'sink')], [(7, 0), ((6, 0),)])
        machine.take('sink')
        self.assertEqual(known(machine, 'sink'), ((7, 0),))

    def test_what_was_heard_ahead_of_a_roof(self):
        machine = Machine(RING)
        machine.note(1)
        machine.come(1)
        self.assertEqual(known(machine, 'a'), ((3, 0),))
        machine.note(0)
        machine.come(0)
        self.assertEqual(known(machine, 'b'), ((5, 1), (5, 0)))
        machine.unite('a', 'b')
        self.assertEqual([known(machine, 'a'), known(machine, 'b')], [((12, 0),), ((9, 0), (14, 0))])

    def test_heard_is_more_than_the_arrival(self):
        machine = Machine(RING)
        for _ in range(3):
            machine.survey()
        self.assertEqual([machine.heard(0), machine.heard(1)], [(14, 0), (12, 0)])
        machine.unite('a', 'b')
        machine.learn('b', 'states')
        self.assertEqual([known(machine, 'a'), known(machine, 'b')], [(None,), ((9, 0), None)])

    def test_what_handlers_can_do_by_each_word(self):
        station = ('s', (('n', 0),), ('i',), ('o',), ('k', 'l'), (
            (('if', ('=', 'n', 1), (('send', 'o', 1),), ()),),
            (),
            (('if', ('=', 'n', 2), (('wait', 'k', 3),), ()),)))
        model = (4, (station,), (('s', 'o', 's', 'i', 5),), ((2, 's', 'l', 0),))
        told = {word: known(Machine(model, knows=word), 's') for word in WORDS}
        self.assertEqual(told, {'delays': ((2, 1), (2, 0), (7, 0)), 'programs': (None, (2, 0), None),
                                'states': (None, (2, 0), None)})
        ringing = model[:3] + (((2, 's', 'k', 0), (4, 's', 'l', 0)),)
        told = {word: known(Machine(ringing, knows=word), 's') for word in WORDS}
        self.assertEqual(told, {'delays': ((2, 0), (2, 1), (7, 0)), 'programs': ((2, 0), (4, 0), (7, 0)),
                                'states': ((2, 0), (4, 0), None)})

    def test_each_station_goes_by_its_own_word(self):
        quiet = ('a', (), ('i',), ('o',), (), ((),))
        other = ('b', (), ('i', 'j'), ('o',), (), ((), (('send', 'o', 1),)))
        model = (2, (quiet, other), (('a', 'o', 'b', 'i', 1), ('b', 'o', 'a', 'i', 1)), ((4, 'b', 'j', 1),))
        roof = (('a', 'b'),)
        told = [known(Machine(model, knows=words, roofs=roof), 'b')
                for words in (('delays', 'delays'), ('programs', 'delays'), ('delays', 'states'))]
        self.assertEqual(told, [((6, 0), (4, 0)), (None, (4, 0)), ((6, 0), (4, 0))])
        self.assertEqual(known(Machine(model, knows=('programs', 'delays'), roofs=roof), 'a'), ((5, 0),))

    def test_arrivals_on_lines_that_are_changed(self):
        def told(*changes, model=MODEL):
            return known(Machine(model, roofs=(('tap', 'sink'),), changes=changes), 'sink')
        later_first = MODEL[:3] + (((5, 'tap', 'a', 1),),)
        self.assertEqual(told(((0, 0), 0, 9)), ((9, 0),))
        self.assertEqual(told(((0, 1), 0, 1)), ((1, 0),))
        self.assertEqual(told(((3, 2), 0, 0)), ((3, 3),))
        self.assertEqual(told(((5, 0), 0, 0)), ((4, 0),))
        self.assertEqual(told(((2, 0), 0, 20), ((6, 0), 0, 0), model=later_first), ((6, 1),))
        self.assertEqual(told(((6, 0), 0, 0), ((2, 0), 0, 7), ((4, 0), 0, 5), model=later_first), ((6, 1),))
        self.assertEqual(told(((4, 0), 0, 3), ((8, 0), 0, 0), ((8, 1), 0, 0), model=later_first), ((8, 0),))

    def test_arrivals_are_the_least_of_all_further_letters(self):
        sender = ('a', (), ('i',), ('o',), (), ((),))
        other = ('b', (), ('i',), (), (), ((),))
        for seed in range(40):
            maker = Maker(seed)
            model = (2, (sender, other), (('a', 'o', 'b', 'i', maker.dice.choice((0, 2, 5))),),
                     ((maker.dice.randint(0, 9), 'a', 'i', 0),))
            changes = maker.changes(model, turns=3)
            item = model[3][0][0]
            letters = []
            for stamp in [(time, turn) for time in range(item, 20) for turn in range(5)]:
                told = [change for change in changes if change[0] <= stamp]
                letters.append(oracle.after(stamp, max(told)[2] if told else model[2][0][4]))
            machine = Machine(model, roofs=(('a', 'b'),), changes=changes)
            self.assertEqual(known(machine, 'b'), (min(letters),))

    def test_no_further_letter_overtakes_the_last_one(self):
        machine = Machine(MODEL, roofs=(('tap', 'sink'),), changes=(((2, 0), 0, 9), ((2, 1), 0, 1)))
        machine.take('tap')
        self.assertEqual(machine.take('tap')[4], ((0, 0, (11, 0), 4),))
        self.assertEqual(known(machine, 'sink'), ((11, 0),))
        machine.come(0)
        machine.take('sink')
        self.assertEqual([machine.heard(0), known(machine, 'sink')], [(11, 0), ((11, 0),)])

    def test_named_arguments(self):
        self.assertEqual(known(station='sink', machine=Machine(MODEL)), ((0, 0),))

    def test_wrong_arguments(self):
        machine = Machine(MODEL)
        for value in any_values():
            if value != 'tap':
                self.assertRaisesWith(NoStation, value, known, machine, value)
        self.assertEqual(machine, Machine(MODEL))


if __name__ == '__main__':
    unittest.main()
