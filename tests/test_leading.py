"""Points 8, 9 and 15 to 18 beside a machine that is made once more; guarantees (a), (b) and (f) under all orders."""

import random
import unittest

from farasnothing.errors import FarError
from farasnothing.machine import Machine
from farasnothing.oneclock import Clock
from tests.beside import Beside
from tests.checks import Checks
from tests.driving import ALL, FALLS, driven, do_any, made_machine
from tests.samples import MODEL, any_values


class Leading(Beside, unittest.TestCase):

    def led(self, seeds, many, **named):
        done = []
        for seed in seeds:
            with self.subTest(seed=seed):
                done += self.lead(seed, many, **named)[2]
        return done

    def test_any_models(self):
        done = self.led(range(70), 50)
        for kind in set(ALL):
            self.assertGreater(done.count(kind), 8, kind)

    def test_busy_models(self):
        done = self.led(range(50), 60, busy=True)
        for kind in set(ALL):
            self.assertGreater(done.count(kind), 8, kind)

    def test_many_falls(self):
        done = self.led(range(200, 240), 90, busy=True, kinds=FALLS, changes=False)
        self.assertGreater(done.count('fall'), 50)

    def test_pictures_and_what_ends_them(self):
        kinds = ['take'] * 6 + ['come'] * 12 + ['picture'] * 4 + ['unite', 'back', 'fall', 'note']
        done = self.led(range(300, 335), 80, busy=True, kinds=kinds)
        self.assertGreater(done.count('picture'), 120)


class Guarantees(unittest.TestCase):

    def names(self, machine):
        return [station[0] for station in machine.model[1]]

    def assertBeginning(self, machine, many=200):
        clock = Clock(machine.model, changes=machine.changes)
        list(clock.run(many))
        for name in self.names(machine):
            deeds = machine.deeds_of(name)
            plain = tuple([deed for deed in clock.deeds if deed[1] == name])
            self.assertEqual(deeds[:len(plain)], plain[:len(deeds)])

    def end(self, machine):
        """All comes and is taken, by surveys if need be; whether there is an end."""
        lines = range(len(machine.model[2]))
        for _ in range(150):
            while any([machine.on_way(line) for line in lines]):
                for line in lines:
                    if machine.on_way(line):
                        machine.come(line)
            takers = [name for name in self.names(machine) if machine.may_take(name)]
            if not takers and not any([machine.waiting(name) for name in self.names(machine)]):
                return True
            for name in takers:
                machine.take(name)
            if not takers:
                machine.survey()
                self.assertTrue(any([machine.may_take(name) for name in self.names(machine)]))
        return False

    def test_what_is_taken_is_the_beginning_of_what_is_taken_by_one_clock(self):
        ended = 0
        for seed in range(100):
            machine = made_machine(seed, busy=seed % 2 == 0)
            dice = random.Random(seed + 3000)
            for at in range(100):
                do_any(machine, dice, ALL)
                if at % 50 == 49:
                    self.assertBeginning(machine)
            self.assertBeginning(machine)
            if self.end(machine):
                ended += 1
                clock = Clock(machine.model, changes=machine.changes)
                list(clock.run(600))
                for name in self.names(machine):
                    plain = tuple([deed for deed in clock.deeds if deed[1] == name])
                    self.assertEqual([machine.deeds_of(name), machine.worths(name), machine.behind(name)],
                                     [plain, clock.worths(name), 0])
        self.assertGreater(ended, 50)

    def test_no_letter_comes_below_what_was_heard(self):
        letters = 0
        for seed in range(80):
            machine = made_machine(seed, busy=True)
            dice = random.Random(seed + 4000)
            for _ in range(90):
                heard = [machine.heard(line) for line, _ in enumerate(machine.model[2])]
                done = do_any(machine, dice, ALL)
                if done and done[0][0] == 'come' and done[1][0] == 'letter':
                    letters += 1
                    self.assertTrue(heard[done[0][1]] is not None and done[1][1] >= heard[done[0][1]])
        self.assertGreater(letters, 250)

    def test_machines_that_were_led_otherwise_are_equal_in_the_end(self):
        equal = 0
        for seed in range(60):
            machine = made_machine(seed, busy=True)
            other = machine.copy()
            dice = random.Random(seed)
            for one in (machine, other):
                for _ in range(60):
                    do_any(one, dice, ['take'] * 3 + ['come'] * 4 + ['mark', 'fall', 'note', 'survey'])
            if self.end(machine) and self.end(other):
                equal += 1
                for name in self.names(machine):
                    self.assertEqual([machine.deeds_of(name), machine.worths(name)],
                                     [other.deeds_of(name), other.worths(name)])
        self.assertGreater(equal, 30)


class Copies(Checks, unittest.TestCase):

    def test_a_copy_is_independent(self):
        for seed in range(80):
            machine = driven(seed, 80, kinds=ALL, busy=True)
            other = machine.copy()
            self.assertTrue(machine == other)
            self.assertEqual(machine.log, other.log)
            told, log = machine.content(), machine.log
            dice = random.Random(seed)
            for _ in range(40):
                do_any(other, dice, ALL)
            self.assertEqual(machine.content(), told)
            self.assertEqual(machine.log, log)
            again = machine.copy()
            dice = random.Random(seed)
            for _ in range(40):
                do_any(again, dice, ALL)
            self.assertTrue(again == other)
            self.assertEqual(again.log, other.log)

    def test_equal_but_for_the_log(self):
        machine, other = Machine(MODEL), Machine(MODEL)
        machine.unite('tap', 'tap')
        machine.mark('sink')
        self.assertTrue(machine == other)
        self.assertNotEqual(machine.log, other.log)

    def test_each_order_that_makes_a_difference(self):
        taken = Machine(MODEL)
        for _ in range(2):
            taken.take('tap')
        orders = [('come', 0), ('take', 'tap'), ('note', 0), ('learn', 'tap', 'states'), ('unite', 'tap', 'sink'),
                  ('survey',), ('picture', ('tap',)), ('mark', 'tap'), ('fall', ('tap',)), ('back', (2, 0)),
                  ('change', (9, 0), 0, 5)]
        made = [taken]
        for order in orders:
            machine = taken.copy()
            getattr(machine, order[0])(*order[1:])
            self.assertEqual(machine.log, (('take', 'tap'), ('take', 'tap'), order))
            made.append(machine)
        for at, machine in enumerate(made):
            for place, other in enumerate(made):
                self.assertIs(machine == other, at == place, (at, place))
        for value in any_values():
            self.assertIs(taken == value, False)

    def test_what_was_heard_and_told(self):
        quiet, noted = Machine(MODEL), Machine(MODEL)
        noted.note(0)
        self.assertFalse(quiet == noted)
        noted.come(0)
        self.assertFalse(quiet == noted)
        other = Machine(MODEL)
        other.survey()
        self.assertTrue(noted == other)
        noted.mark('sink')
        self.assertEqual(noted.marks('sink'), other.marks('sink'))
        self.assertFalse(noted == other)

    def test_heard_of_an_inner_line(self):
        machine, other = Machine(MODEL, roofs=(('tap', 'sink'),)), Machine(MODEL, roofs=(('tap', 'sink'),))
        other.survey()
        self.assertEqual([machine.heard(0), other.heard(0)], [(4, 0), (4, 0)])
        self.assertFalse(machine == other)
        other.back((0, 0))
        self.assertTrue(machine == other)

    def test_a_picture_under_way_alone(self):
        machine, other = Machine(MODEL), Machine(MODEL)
        for one in (machine, other):
            one.take('tap')
            one.take('tap')
        machine.picture(('tap',))
        other.come(0)
        machine.come(0)
        self.assertEqual(machine.on_way(0), (('flag',),))
        other.picture(('tap',))
        self.assertEqual([machine.on_way(0), machine.drawn], [other.on_way(0), other.drawn])
        for line in (0,):
            self.assertEqual([machine.come(line), other.come(line)], [('flag',), ('flag',)])
        self.assertTrue(machine == other)
        for one in (machine, other):
            one.take('sink')
        third = machine.copy()
        machine.picture(('tap', 'sink'))
        third.picture(('tap',))
        self.assertEqual([machine.on_way(0), machine.drawn], [third.on_way(0), third.drawn])
        self.assertFalse(machine == third)

    def test_what_is_refused_changes_nothing(self):
        for seed in range(60):
            machine = driven(seed, 60, kinds=ALL, busy=True)
            before, log = machine.copy(), machine.log
            for name, many in (('picture', 1), ('mark', 1), ('marks', 1), ('fall', 1), ('behind', 1), ('back', 1),
                               ('change', 3), ('take', 1), ('come', 1), ('note', 1), ('learn', 2), ('unite', 2)):
                for value in any_values()[seed % 7::7]:
                    try:
                        getattr(machine, name)(*[value] * many)
                    except FarError:
                        self.assertTrue(machine == before)
                        self.assertIs(machine.log, log)
                    else:
                        machine, log = before.copy(), before.log


if __name__ == '__main__':
    unittest.main()
