"""Point 11: one clock that goes on with what a machine has, and letters that come just at a bound by delays."""

import random
import unittest

from farasnothing.bounds import bound, why_bound
from farasnothing.errors import Behind, NoLine
from farasnothing.machine import Machine
from farasnothing.oneclock import Clock
from farasnothing.relays import clock_of, relayed
from tests.checks import Checks
from tests.driving import ALL, FALLS, do_any, driven, made_machine
from tests.samples import MODEL, RING, any_values
from tests.test_bounds import ring


class Clocks(Checks, unittest.TestCase):

    def test_the_example(self):
        machine = Machine(MODEL)
        for _ in range(2):
            machine.take('tap')
        clock = clock_of(machine)
        self.assertEqual([clock.deeds, clock.worths('tap')], [(), (0,)])
        self.assertEqual(clock.all_items(), (((3, 0), 'tap', 'bell', 0), ((6, 0), 'sink', 'b', 4)))
        self.assertEqual(clock.step(), ((3, 0), 'tap', 'bell', 0, ((0, 1, (7, 0), 1),), ()))
        self.assertEqual([deed[3] for deed in clock.run(9)], [4, 1])
        self.assertTrue(clock_of(Machine(MODEL)) == Clock(MODEL))

    def assertGoesOn(self, machine, full):
        """The clock of the machine takes what is left of what one clock takes from the beginning."""
        clock = clock_of(machine)
        if machine.drawn is None:
            self.assertEqual(clock.changes, machine.changes)
        list(clock.run(150))
        many = 0
        for station in machine.model[1]:
            name = station[0]
            left = tuple([deed for deed in full if deed[1] == name])[len(machine.deeds_of(name)):]
            told = tuple([deed for deed in clock.deeds if deed[1] == name])
            self.assertEqual(told[:len(left)], left[:len(told)])
            many += len(told)
        return many

    def test_behind_any_orders(self):
        many = behind = 0
        for seed in range(120):
            machine = made_machine(seed, busy=seed % 3 != 0)
            dice = random.Random(seed)
            for _ in range(50):
                do_any(machine, dice, ALL if seed % 2 else FALLS)
            late = [station[0] for station in machine.model[1] if machine.behind(station[0])]
            if late:
                behind += 1
                self.assertRaisesNaming(Behind, late[0], clock_of, machine)
                for line, _ in enumerate(machine.model[2]):
                    self.assertRaisesNaming(Behind, late[0], relayed, machine, line)
            for _ in range(60):
                for name in [name for name in late if machine.behind(name)]:
                    if machine.may_take(name):
                        machine.take(name)
                for line, _ in enumerate(machine.model[2]):
                    while machine.on_way(line) and late:
                        machine.come(line)
                if late:
                    machine.survey()
            if any([machine.behind(name) for name in late]):
                continue
            before, log = machine.copy(), machine.log
            clock = Clock(machine.model, changes=machine.changes)
            many += self.assertGoesOn(machine, tuple(clock.run(400)))
            self.assertTrue(machine == before)
            self.assertIs(machine.log, log)
        self.assertGreater(many, 300)
        self.assertGreater(behind, 8)

    def test_none_overtakes(self):
        machine = Machine(MODEL, changes=(((3, 0), 0, 0),))
        for _ in range(2):
            machine.take('tap')
        clock = clock_of(machine)
        self.assertEqual(clock.step()[4], ((0, 1, (6, 0), 1),))
        machine.come(0)
        self.assertEqual(clock_of(machine).step()[4], ((0, 1, (6, 0), 1),))
        self.assertEqual(machine.deeds_of('tap')[1][4], ((0, 0, (6, 0), 4),))

    def test_a_clock_is_independent(self):
        machine = Machine(MODEL)
        clock = clock_of(machine)
        list(clock.run(9))
        self.assertEqual([machine, len(clock.deeds)], [Machine(MODEL), 5])
        machine.take('tap')
        self.assertEqual(len(clock_of(machine).all_items()), 2)


class Relayed(Checks, unittest.TestCase):

    def letters(self, machine, line, many=250):
        """The stamps of the letters that come on a line, those too that wait or are on the way."""
        _, _, receiver, port, _ = machine.model[2][line]
        clock = clock_of(machine)
        items = [item[0] for item in clock.all_items() if item[1:3] == (receiver, port)]
        for deed in clock.run(many):
            items += [letter[2] for letter in deed[4] if letter[0] == line]
        return items

    def test_the_example(self):
        machine = Machine(RING)
        other = relayed(machine, 0)
        self.assertEqual([station[5] for station in other.model[1]], [((('send', 'y', 0),),), ((('send', 'y', 0),), ())])
        self.assertEqual(self.letters(other, 0), [(14, 0)])
        only = relayed(line=1, machine=machine)
        self.assertEqual([station[5] for station in only.model[1]], [((),), ((('send', 'y', 0),), ())])
        self.assertEqual(self.letters(only, 1), [(12, 0)])

    def test_what_stays(self):
        machine = driven(8, 60, kinds=ALL, busy=True)
        while any([machine.behind(station[0]) for station in machine.model[1]]):
            machine.back((0, 0))
        before, log = machine.copy(), machine.log
        for line, _ in enumerate(machine.model[2]):
            other = relayed(machine, line)
            self.assertEqual([[*station[:5]] for station in other.model[1]],
                             [[*station[:5]] for station in machine.model[1]])
            self.assertEqual([other.model[0], *other.model[2:]], [machine.model[0], *machine.model[2:]])
            other.model = machine.model
            self.assertTrue(other == machine)
        self.assertTrue(machine == before)
        self.assertIs(machine.log, log)

    def by_delays(self, seed):
        """A machine in which nothing was heard that delays do not tell; nobody is behind."""
        made = made_machine(seed, busy=seed % 2 == 0, changes=seed % 4 < 2)
        machine = Machine(made.model, roofs=made.roofs, changes=made.changes)
        dice = random.Random(seed + 90)
        for _ in range(dice.randint(0, 40)):
            do_any(machine, dice, ['take'] * 8 + ['come'] * 10 + ['note', 'survey', 'unite', 'back', 'picture'])
        return machine

    def test_a_letter_comes_just_at_the_bound(self):
        just = roads = heard = 0
        for seed in range(150):
            machine = self.by_delays(seed)
            for line, told in enumerate(machine.model[2]):
                least = bound(machine, line, 'delays')
                further = self.letters(relayed(machine, line), line)
                for item in machine.waiting(told[2]):
                    if item[1] == told[3]:
                        further.remove(item[0])
                if least is None:
                    self.assertEqual(further, [])
                    continue
                self.assertTrue(all([stamp >= least for stamp in further]))
                if not machine.changes:
                    just += 1
                    self.assertIn(least, further)
                    roads += len(why_bound(machine, line, 'delays')[1])
                    heard += machine.heard(line) != (0, 0)
        self.assertGreater(just, 90)
        self.assertGreater(roads, 80)
        self.assertGreater(heard, 30)

    def test_with_changes_that_are_past(self):
        machine = Machine(MODEL, changes=(((0, 0), 0, 9),))
        self.assertEqual([bound(machine, 0, 'delays'), self.letters(relayed(machine, 0), 0)[0]], [(9, 0), (9, 0)])
        machine = Machine(MODEL, changes=(((1, 0), 0, 0), ((2, 0), 0, 3)))
        self.assertEqual(bound(machine, 0, 'delays'), (1, 1))
        self.assertEqual(self.letters(relayed(machine, 0), 0), [(4, 0), (5, 0)])

    def test_no_road(self):
        machine = Machine(MODEL)
        for _ in range(2):
            machine.take('tap')
        self.assertEqual([station[5] for station in relayed(machine, 0).model[1]], [((), ()), ((),)])
        self.assertEqual(self.letters(relayed(machine, 0), 0), [(6, 0)])
        quiet = Machine((2, RING[1], RING[2], ()))
        self.assertEqual([bound(quiet, 0, 'delays'), self.letters(relayed(quiet, 0), 0)], [None, []])

    def test_rings(self):
        for delays in ((0,), (3,), (0, 0), (2, 0, 1), (1, 4, 0, 2)):
            machine = Machine(ring(delays))
            for line, _ in enumerate(delays):
                other = relayed(machine, line)
                self.assertEqual(self.letters(other, line, 20)[0], bound(machine, line, 'delays'))
                sends = [block for station in other.model[1] for block in station[5] if block]
                self.assertEqual(sends, [(('send', 'y', 0),)] * (line + 1))

    def test_a_station_that_can_set_an_alarm_sends_itself(self):
        station = ('s', (), ('i',), ('o',), ('k',), ((('send', 'o', 1),), (('wait', 'k', 0),)))
        model = (2, (station, ('u', (), ('i',), (), (), ((),))), (('s', 'o', 'u', 'i', 0),), ((1, 's', 'i', 0),))
        other = relayed(Machine(model), 0)
        self.assertEqual(other.model[1][0][5], ((), (('send', 'o', 0),)))
        self.assertEqual(self.letters(other, 0), [(1, 1)])

    def test_knowing_is_that_of_the_other_programs(self):
        machine = Machine(RING, knows='programs')
        self.assertEqual([bound(machine, 0, 'programs'), machine.promise(0)], [None, None])
        other = relayed(machine, 0)
        self.assertEqual([bound(other, 0, 'programs'), other.promise(0)], [(14, 0), (2, 0)])
        self.assertEqual([bound(machine, 0, 'programs'), machine.promise(0)], [None, None])

    def test_wrong_lines(self):
        machine = Machine(MODEL)
        machine.take('tap')
        machine.fall(('tap',))
        for value in any_values():
            if type(value) is not int or value != 0:
                self.assertRaisesWith(NoLine, value, relayed, machine, value)
        self.assertRaisesNaming(Behind, 'tap', relayed, machine, 0)


if __name__ == '__main__':
    unittest.main()
