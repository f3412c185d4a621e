"""Sections 8 and 9, as far as what is known and rows rest on them; guarantee (a), as far as it speaks of one clock."""

import random
import unittest

from farasnothing.errors import (BadChanges, BadKnows, BadModel, BadRoofs, Inner, NoItem, NoLine, NoStation,
                                 NothingOnWay, Waits)
from farasnothing.machine import Machine
from farasnothing.oneclock import Clock
from tests.checks import Checks
from tests.driving import do_any, driven, made_machine
from tests.samples import MODEL, RING, Maker, any_values


class Made(Checks, unittest.TestCase):

    def test_in_the_beginning(self):
        machine = Machine(RING)
        self.assertIs(machine.model, RING)
        self.assertEqual([machine.knows, machine.roofs, machine.unwritten, machine.changes, machine.log],
                         [('delays', 'delays'), (('a',), ('b',)), (), (), ()])
        self.assertEqual([machine.deeds_of('a'), machine.worths('a'), machine.next_item('a'), machine.waiting('a'),
                          machine.next_item('b'), machine.waiting('b'), machine.marks('b')],
                         [(), (), None, (), ((9, 0), 'k', 0), (((9, 0), 'k', 0),), (0,)])
        self.assertEqual([machine.heard(0), machine.told(1), machine.on_way(1)], [(0, 0), (0, 0), ()])

    def test_what_is_told_of_it(self):
        changes = (((3, 1), 1, 2), ((5, 0), 0, 1), ((3, 0), 1, 4))
        machine = Machine(RING, knows=('states', 'programs'), roofs=(('b', 'a'),), unwritten=(1, 0), changes=changes)
        self.assertEqual([machine.knows, machine.roofs, machine.unwritten, machine.changes],
                         [('states', 'programs'), (('a', 'b'),), (0, 1),
                          (((5, 0), 0, 1), ((3, 0), 1, 4), ((3, 1), 1, 2))])
        self.assertEqual(Machine(RING, knows='states').knows, ('states', 'states'))

    def test_roofs(self):
        stations = tuple([(name, (), (), (), (), ()) for name in ('d', 'b', 'c', 'a')])
        model = (2, stations, (), ())

        def roofs(*told):
            return Machine(model, roofs=told).roofs
        self.assertEqual(roofs(), (('d',), ('b',), ('c',), ('a',)))
        self.assertEqual(roofs(('a', 'b'), ('c',)), (('d',), ('b', 'a'), ('c',)))
        self.assertEqual(roofs(('a', 'c'), ('b', 'd')), (('d', 'b'), ('c', 'a')))
        machine = Machine(model, roofs=(('a', 'b'),))
        machine.unite('b', 'a')
        self.assertEqual(machine.roofs, (('d',), ('b', 'a'), ('c',)))
        machine.unite('c', 'b')
        self.assertEqual(machine.roofs, (('d',), ('b', 'c', 'a')))
        machine.unite(station='d', other='d')
        self.assertEqual(machine.roofs, (('d',), ('b', 'c', 'a')))

    def test_wrong_arguments(self):
        for value in any_values():
            self.assertRaisesWith(BadModel, value, Machine, value, knows=value, roofs=value)
            if value != 'delays':
                self.assertRaisesWith(BadKnows, value, Machine, MODEL, knows=value, roofs=value)
                knows = ('delays', value)
                self.assertRaisesWith(BadKnows, knows, Machine, MODEL, knows=knows)
            if value not in ((), (('tap',),)):
                self.assertRaisesWith(BadRoofs, value, Machine, MODEL, roofs=value, unwritten=value)
            if value not in (('tap',),):
                roofs = (('sink',), value)
                self.assertRaisesWith(BadRoofs, roofs, Machine, MODEL, roofs=roofs)
            if value != ():
                self.assertRaisesWith(BadChanges, value, Machine, MODEL, changes=value)
            if not isinstance(value, tuple):
                self.assertRaisesWith(NoLine, value, Machine, MODEL, unwritten=value, changes=value)
            if type(value) is not int or value != 0:
                self.assertRaisesWith(NoLine, value, Machine, MODEL, unwritten=(0, value, 0))
        for knows in (('delays',), ('delays', 'delays', 'delays'), ['delays', 'delays'], 'known'):
            self.assertRaisesWith(BadKnows, knows, Machine, MODEL, knows=knows)
        for roofs in ((('tap', 'sink'), ('sink',)), (('tap', 'tap'),), ((),), (('tap', 'other'),), (['tap'],),
                      [('tap',)]):
            self.assertRaisesWith(BadRoofs, roofs, Machine, MODEL, roofs=roofs)
        twice = (0, 0)
        self.assertRaisesWith(NoLine, twice, Machine, MODEL, unwritten=twice)


class Running(Checks, unittest.TestCase):

    def test_waiting(self):
        machine = Machine(MODEL)
        self.assertEqual([machine.next_item('sink'), machine.may_take('sink')], [None, False])
        self.assertRaisesWith(NoItem, 'sink', machine.take, 'sink')
        self.assertRaisesWith(NothingOnWay, 0, machine.come, 0)
        for _ in range(3):
            machine.take('tap')
        for _ in range(2):
            machine.come(0)
        self.assertEqual(machine.waiting('sink'), (((6, 0), 'b', 4), ((7, 0), 'b', 1)))
        self.assertEqual(machine.on_way(0), ())

    def test_what_has_to_be_heard(self):
        say = (('say', 'it'),)
        other = ('b', (), ('i', 'j'), (), ('k',), (say, say, say))
        one = ('a', (), ('f',), ('o', 'p'), (), ((('send', 'p', 1),),))
        model = (2, (one, other), (('a', 'p', 'b', 'j', 2), ('a', 'o', 'b', 'i', 3)),
                 ((4, 'a', 'f', 0), (5, 'a', 'f', 0), (5, 'b', 'k', 0)))
        machine = Machine(model)
        self.assertRaisesWith(Waits, 1, machine.take, 'b')
        machine.note(1)
        machine.come(1)
        self.assertRaisesWith(Waits, 0, machine.take, 'b')
        machine.take('a')
        self.assertEqual([machine.come(0), machine.next_item('b')], [('letter', (6, 0), 1), ((5, 0), 'k', 0)])
        self.assertEqual([machine.may_take('b'), machine.take('b')[2]], [True, 'k'])
        self.assertEqual([machine.heard(1), machine.take('b')[0]], [(7, 0), (6, 0)])

    def test_of_an_in_ahead_more_has_to_be_heard(self):
        say = (('say', 'it'),)
        other = ('b', (), ('i', 'j'), (), (), (say, say))
        one = ('a', (), ('f',), ('o', 'p'), (), ((('send', 'p', 1),),))
        lines = (('a', 'p', 'b', 'j', 2), ('a', 'o', 'b', 'i', 2))
        model = (2, (one, other), lines, ((4, 'a', 'f', 0), (4, 'a', 'f', 0)))
        machine = Machine(model)
        machine.take('a')
        machine.come(0)
        machine.note(1)
        machine.come(1)
        self.assertEqual([machine.heard(0), machine.heard(1)], [(6, 0), (6, 0)])
        self.assertRaisesWith(Waits, 1, machine.take, 'b')
        machine.take('a')
        machine.note(1)
        machine.come(1)
        self.assertEqual(machine.take('b')[0], (6, 0))

    def test_notices(self):
        machine = Machine(MODEL)
        self.assertEqual([machine.promise(0), machine.note(0), machine.note(0)], [(4, 0), (4, 0), (4, 0)])
        self.assertEqual(machine.on_way(0), (('notice', (4, 0)), ('notice', (4, 0))))
        self.assertEqual([machine.told(0), machine.heard(0)], [(4, 0), (0, 0)])
        self.assertEqual([machine.come(0), machine.heard(0)], [('notice', (4, 0)), (4, 0)])
        for _ in range(3):
            machine.take('tap')
        self.assertEqual([machine.told(0), machine.note(0), machine.told(0)], [(7, 0), None, None])
        self.assertEqual([machine.come(0), machine.come(0), machine.come(0), machine.heard(0)],
                         [('notice', (4, 0)), ('letter', (6, 0), 4), ('letter', (7, 0), 1), (7, 0)])
        self.assertEqual([machine.come(0), machine.heard(0)], [('notice', None), None])

    def test_inner_lines(self):
        machine = Machine(RING, roofs=(('a', 'b'),))
        self.assertEqual([machine.heard(0), machine.heard(1), machine.may_take('b')], [(14, 0), (12, 0), True])
        for line in (0, 1):
            self.assertRaisesWith(Inner, line, machine.promise, line)
            self.assertRaisesWith(Inner, line, machine.note, line)
        alone = Machine((2, (('s', (), ('i',), ('o',), (), ((),)),), (('s', 'o', 's', 'i', 0),), ()))
        self.assertEqual(alone.heard(0), None)
        self.assertRaisesWith(Inner, 0, alone.promise, 0)

    def test_surveys(self):
        machine = Machine(RING)
        machine.survey()
        self.assertEqual([machine.heard(0), machine.heard(1), machine.told(0), machine.told(1)],
                         [(14, 0), (12, 0), (14, 0), (12, 0)])
        self.assertEqual(machine.take('b')[0], (9, 0))
        machine.survey()
        self.assertEqual([machine.heard(0), machine.heard(1), machine.told(0), machine.told(1)], [None] * 4)

    def test_learning(self):
        machine = Machine(MODEL)
        machine.learn(station='sink', word='programs')
        self.assertEqual(machine.knows, ('delays', 'programs'))
        machine.learn('sink', 'programs')
        machine.learn('tap', 'states')
        self.assertEqual(machine.knows, ('states', 'programs'))
        self.assertEqual(machine.log, (('learn', 'sink', 'programs'), ('learn', 'sink', 'programs'),
                                       ('learn', 'tap', 'states')))
        for word in ('delays', 'programs'):
            self.assertRaisesWith(BadKnows, word, machine.learn, 'tap', word)
        for value in any_values():
            self.assertRaisesWith(BadKnows, value, machine.learn, 'tap', value)

    def test_marks(self):
        machine = Machine(MODEL)
        machine.mark('tap')
        self.assertEqual(machine.marks('tap'), (0,))
        machine.take('tap')
        self.assertEqual(machine.marks('tap'), (0,))
        machine.take('tap')
        machine.mark('tap')
        self.assertEqual(machine.marks(station='tap'), (0, 2))
        machine.mark(station='tap')
        self.assertEqual([machine.marks('tap'), machine.marks('sink')], [(0, 2), (0,)])

    def test_the_log(self):
        machine = Machine(MODEL)
        machine.take('tap')
        machine.take(station='tap')
        machine.come(line=0)
        machine.note(line=0)
        machine.unite('tap', 'sink')
        machine.survey()
        machine.mark('sink')
        self.assertEqual(machine.log, (('take', 'tap'), ('take', 'tap'), ('come', 0), ('note', 0),
                                       ('unite', 'tap', 'sink'), ('survey',), ('mark', 'sink')))

    def test_copies_and_equal_machines(self):
        for seed in range(60):
            machine = driven(seed, 40)
            other = machine.copy()
            self.assertTrue(machine == other)
            self.assertEqual([other.log, other.model, other.roofs], [machine.log, machine.model, machine.roofs])
            told = machine.content()
            dice = random.Random(seed)
            for _ in range(20):
                do_any(other, dice)
            self.assertEqual(machine.content(), told)
        self.assertFalse(Machine(MODEL) == Machine(RING))
        self.assertFalse(Machine(MODEL) == Machine(MODEL, knows='states'))
        self.assertFalse(Machine(MODEL) == Machine(MODEL, roofs=(('tap', 'sink'),)))
        self.assertFalse(Machine(MODEL) == Machine(MODEL, unwritten=(0,)))
        self.assertFalse(Machine(MODEL) == Machine(MODEL, changes=(((0, 0), 0, 4),)))
        for value in any_values():
            self.assertFalse(Machine(MODEL) == value)

    def test_wrong_stations_and_lines(self):
        machine = Machine(MODEL)
        for value in any_values():
            if value != 'tap':
                for act in (machine.deeds_of, machine.worths, machine.next_item, machine.waiting, machine.may_take,
                            machine.take, machine.mark, machine.marks):
                    self.assertRaisesWith(NoStation, value, act, value)
                self.assertRaisesWith(NoStation, value, machine.learn, value, value)
                self.assertRaisesWith(NoStation, value, machine.unite, value, None)
                self.assertRaisesWith(NoStation, value, machine.unite, 'tap', value)
            if type(value) is not int or value != 0:
                for act in (machine.heard, machine.told, machine.on_way, machine.come, machine.promise, machine.note):
                    self.assertRaisesWith(NoLine, value, act, value)
        self.assertEqual([machine, machine.log], [Machine(MODEL), ()])


class Guarantees(unittest.TestCase):

    def test_what_was_taken_is_the_beginning_of_what_is_taken_by_one_clock(self):
        taken = 0
        for seed in range(400):
            machine = made_machine(seed)
            dice = random.Random(seed + 3000)
            for _ in range(dice.randint(0, 120)):
                do_any(machine, dice)
            clock = Clock(machine.model, changes=machine.changes)
            list(clock.run(300))
            for station in machine.model[1]:
                deeds = machine.deeds_of(station[0])
                plain = tuple([deed for deed in clock.deeds if deed[1] == station[0]])
                self.assertEqual(deeds[:len(plain)], plain[:len(deeds)], seed)
                taken += len(deeds)
        self.assertGreater(taken, 1000)

    def test_all_is_taken_in_the_end(self):
        for seed in range(150):
            maker = Maker(seed)
            model = maker.model(delays=(1, 2, 5))
            changes = tuple([(stamp, line, delay or 1) for stamp, line, delay in maker.changes(model)])
            clock = Clock(model, changes=changes)
            list(clock.run(80))
            if clock.all_items():
                continue
            machine = Machine(model, changes=changes)
            while any([machine.waiting(station[0]) for station in model[1]]):
                takers = [station[0] for station in model[1] if machine.may_take(station[0])]
                if takers:
                    machine.take(maker.dice.choice(takers))
                else:
                    machine.survey()
                for line, _ in enumerate(model[2]):
                    while machine.on_way(line):
                        machine.come(line)
            for station in model[1]:
                plain = tuple([deed for deed in clock.deeds if deed[1] == station[0]])
                self.assertEqual([machine.deeds_of(station[0]), machine.worths(station[0])],
                                 [plain, clock.worths(station[0])])

    def test_no_letter_comes_below_what_was_heard(self):
        for seed in range(200):
            machine = made_machine(seed)
            dice = random.Random(seed + 4000)
            for _ in range(80):
                before = [(machine.heard(line), machine.on_way(line)) for line, _ in enumerate(machine.model[2])]
                log = len(machine.log)
                do_any(machine, dice)
                if len(machine.log) > log and machine.log[-1][0] == 'come':
                    heard, way = before[machine.log[-1][1]]
                    if way[0][0] == 'letter':
                        self.assertTrue(heard is not None and way[0][1] >= heard, seed)


if __name__ == '__main__':
    unittest.main()
