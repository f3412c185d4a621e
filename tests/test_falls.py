"""Point 16: marks, falls, what is behind, what is forgotten."""

import unittest

from farasnothing.errors import NoStation
from farasnothing.machine import Machine
from farasnothing.rows import row
from tests.checks import Checks
from tests.driving import FALLS, do_any, driven, some_of
from tests.samples import MODEL, any_values
from tests.test_rows import chain

import random


class Falls(Checks, unittest.TestCase):

    def test_the_example(self):
        machine = Machine(MODEL, unwritten=(0,))
        told = [machine.take('tap')[0], machine.take('tap')[0], machine.come(0), machine.mark('tap'),
                machine.fall(('sink',)), machine.behind('tap')]
        self.assertEqual(told, [(0, 0), (2, 0), ('letter', (6, 0), 4), None, (0, 0), 2])
        self.assertEqual([machine.marks('tap'), machine.waiting('sink'), machine.on_way(0), machine.told(0)],
                         [(0,), (), (), (6, 0)])
        machine.take('tap')
        self.assertEqual([machine.behind('tap'), machine.on_way(0)], [1, ()])
        self.assertEqual(machine.take('tap')[4], ((0, 0, (6, 0), 4),))
        self.assertEqual([machine.behind('tap'), machine.on_way(0)], [0, (('letter', (6, 0), 4),)])

    def test_a_station_alone_is_as_it_was_at_its_mark(self):
        machine = Machine(MODEL)
        machine.take('tap')
        machine.mark('tap')
        for _ in range(2):
            machine.take('tap')
        machine.come(0)
        machine.mark('sink')
        self.assertEqual(machine.fall(('tap',)), (1, None))
        self.assertEqual([machine.deeds_of('tap'), machine.worths('tap'), machine.waiting('tap'), machine.marks('tap')],
                         [(((0, 0), 'tap', 'a', 1, (), ()),), (1,), (((2, 0), 'a', 3), ((3, 0), 'bell', 0)), (0, 1)])
        self.assertEqual([machine.behind('tap'), machine.behind('sink'), machine.marks('sink')], [2, 0, (0,)])
        self.assertEqual([machine.on_way(0), machine.waiting('sink')], [(('letter', (7, 0), 1),), (((6, 0), 'b', 4),)])
        for _ in range(2):
            machine.take('tap')
        self.assertEqual([machine.on_way(0), machine.behind('tap')], [(('letter', (7, 0), 1),), 0])

    def test_letters_that_are_lacking_on_a_written_line(self):
        machine = Machine(MODEL)
        machine.note(0)
        machine.come(0)
        for _ in range(2):
            machine.take('tap')
        machine.come(0)
        machine.mark('sink')
        machine.take('sink')
        machine.note(0)
        machine.take('tap')
        machine.note(0)
        machine.come(0)
        machine.come(0)
        self.assertEqual([machine.heard(0), machine.on_way(0)], [(7, 0), (('notice', None),)])
        machine.mark('tap')
        self.assertEqual(machine.fall(('sink',)), (None, 0))
        self.assertEqual([machine.on_way(0), machine.heard(0), machine.waiting('sink'), machine.told(0)],
                         [(('letter', (7, 0), 1),), (6, 0), (((6, 0), 'b', 4),), None])
        first = Machine(MODEL)
        for _ in range(3):
            first.take('tap')
        first.come(0)
        first.note(0)
        self.assertEqual(first.fall(('sink',)), (None, 0))
        self.assertEqual([first.on_way(0), first.heard(0)],
                         [(('letter', (6, 0), 4), ('letter', (7, 0), 1)), (0, 0)])

    def test_what_is_on_the_way_to_a_station_that_stays(self):
        machine = Machine(chain(), unwritten=(0, 1))
        machine.take('sa')
        machine.come(0)
        machine.take('sb')
        machine.note(1)
        machine.take('sa')
        machine.note(0)
        self.assertEqual(machine.fall(('sa',)), (0, None, None))
        self.assertEqual([machine.on_way(0), machine.on_way(1)], [(('letter', (2, 0), 1), ('notice', (3, 0))),
                                                                 (('letter', (2, 0), 1), ('notice', (2, 0)))])
        self.assertEqual(machine.fall(('sb',)), (None, 0, None))
        self.assertEqual([machine.on_way(0), machine.on_way(1)], [(), (('letter', (2, 0), 1), ('notice', (2, 0)))])

    def test_nothing_lacks_on_a_line_that_is_not_written(self):
        machine = Machine(chain(2), unwritten=(0,))
        machine.take('sa')
        machine.note(0)
        self.assertEqual(machine.fall(('sb',)), (None, 0))
        self.assertEqual(machine.on_way(0), (('letter', (1, 0), 1),))

    def test_letters_that_came_by_the_mark_are_not_sent_again(self):
        machine = Machine(chain(2), unwritten=(0,))
        for _ in range(3):
            machine.take('sa')
        machine.come(0)
        machine.mark('sb')
        machine.come(0)
        self.assertEqual(machine.fall(('sb',)), (0, 0))
        self.assertEqual([machine.on_way(0), machine.waiting('sb')], [(), (((1, 0), 'i', 1),)])
        for many, way in ((2, ()), (1, (('letter', (2, 0), 1),)), (0, (('letter', (2, 0), 1), ('letter', (3, 0), 1)))):
            machine.take('sa')
            self.assertEqual([machine.behind('sa'), machine.on_way(0)], [many, way])

    def test_again_and_again(self):
        machine = Machine(chain(2), unwritten=(0,))
        for _ in range(2):
            machine.take('sa')
            machine.come(0)
        machine.fall(('sb',))
        machine.take('sa')
        self.assertEqual([machine.fall(('sa', 'sb')), machine.behind('sa'), machine.on_way(0)],
                         [(0, 0), 2, (('letter', (1, 0), 1),)])
        machine.take('sa')
        self.assertEqual([machine.behind('sa'), machine.on_way(0)], [1, (('letter', (1, 0), 1),)])
        machine.come(0)
        machine.fall(('sb',))
        self.assertEqual([machine.behind('sa'), machine.on_way(0)], [2, ()])
        for _ in range(3):
            machine.take('sa')
        self.assertEqual([machine.come(0)[1], machine.come(0)[1], machine.come(0)[1], machine.on_way(0)],
                         [(1, 0), (2, 0), (3, 0), ()])
        for _ in range(2):
            self.assertEqual(machine.take('sb')[4], ())
        self.assertEqual([len(machine.deeds_of('sb')), machine.behind('sb')], [2, 0])

    def test_letters_come_again_just_once(self):
        lacking = 0
        for seed in range(60):
            machine = driven(seed, 0, busy=True, changes=False)
            dice = random.Random(seed + 10)
            lines = list(enumerate(machine.model[2]))
            came = [0 for _ in lines]
            marks = {station[0]: {0: {}} for station in machine.model[1]}
            for _ in range(120):
                done = do_any(machine, dice, FALLS)
                if done is None:
                    continue
                order, answer = done
                if order[0] == 'mark':
                    marks[order[1]][len(machine.deeds_of(order[1]))] = {
                        line: came[line] for line, told in lines if told[2] == order[1]}
                elif order[0] == 'fall':
                    for station, many in zip(machine.model[1], answer):
                        for line, told in lines:
                            if many is not None and told[2] == station[0]:
                                lacking += came[line] > marks[station[0]][many].get(line, 0)
                                came[line] = marks[station[0]][many].get(line, 0)
                elif order[0] == 'come' and answer[0] == 'letter':
                    sender = machine.model[2][order[1]][0]
                    place = [station[0] for station in machine.model[1]].index(sender)
                    ever = [letter for one in machine.posts[place].ever for letter in one[0][4]
                            if letter[0] == order[1]]
                    self.assertEqual(ever[came[order[1]]][1:], (came[order[1]], *answer[1:]))
                    came[order[1]] += 1
        self.assertGreater(lacking, 25)

    def test_the_row_is_that_of_rows(self):
        for seed in range(60):
            machine = driven(seed, 80, kinds=FALLS, busy=True)
            stations = some_of([station[0] for station in machine.model[1]], random.Random(seed))
            told = row(machine, stations)[0]
            behind = [machine.behind(station[0]) + len(machine.deeds_of(station[0])) for station in machine.model[1]]
            self.assertEqual(machine.fall(stations=stations), told)
            for station, many, ever in zip(machine.model[1], told, behind):
                if many is not None:
                    self.assertEqual([len(machine.deeds_of(station[0])), machine.marks(station[0])[-1]], [many, many])
                self.assertEqual(machine.behind(station[0]), ever - len(machine.deeds_of(station[0])))

    def test_heard_of_the_lines_into_it_alone(self):
        machine = Machine(chain())
        machine.survey()
        self.assertEqual([machine.heard(0), machine.heard(1)], [(1, 0), (2, 0)])
        machine.fall(('sb',))
        self.assertEqual([machine.heard(0), machine.heard(1), machine.told(0)], [(0, 0), (2, 0), (1, 0)])
        machine.mark('sc')
        machine.survey()
        machine.fall(('sc',))
        self.assertEqual(machine.heard(1), (2, 0))

    def test_wrong_stations(self):
        machine = Machine(MODEL)
        machine.take('tap')
        before = machine.copy()
        for value in any_values():
            if not isinstance(value, tuple) or not value or value == ('tap', 'tap'):
                self.assertRaisesWith(NoStation, value, machine.fall, value)
            elif value != ('tap',):
                self.assertRaisesWith(NoStation, value[0], machine.fall, value)
            if value != 'tap':
                self.assertRaisesWith(NoStation, value, machine.fall, ('sink', value, 'sink'))
                for act in (machine.behind, machine.mark, machine.marks):
                    self.assertRaisesWith(NoStation, value, act, value)
        twice = ('tap', 'sink', 'tap')
        self.assertRaisesWith(NoStation, twice, machine.fall, twice)
        self.assertEqual([machine, machine.log], [before, before.log])
        machine.behind(station='tap')


class Forgotten(unittest.TestCase):

    def test_marks_that_stand_wholly(self):
        machine = Machine(chain(2), unwritten=(0,))
        for _ in range(3):
            machine.take('sa')
            machine.mark('sa')
        machine.come(0)
        machine.mark('sb')
        machine.come(0)
        machine.take('sb')
        machine.mark('sb')
        self.assertEqual([machine.marks('sa'), machine.marks('sb')], [(0, 1, 2, 3), (0, 1)])
        self.assertEqual(machine.forget(), (2, 1))
        self.assertEqual([machine.marks('sa'), machine.marks('sb'), machine.log[-1]], [(2, 3), (1,), ('forget',)])
        self.assertEqual(machine.forget(), (2, 1))

    def test_what_is_on_the_way_may_be_lacking_later(self):
        machine = Machine(chain(2), unwritten=(0,))
        machine.take('sa')
        machine.mark('sa')
        self.assertEqual([row(machine, ('sb',))[0], machine.forget()], [(None, 0), (0, 0)])
        self.assertEqual(machine.marks('sa'), (0, 1))
        machine.come(0)
        self.assertEqual([machine.fall(('sb',)), machine.marks('sa')], [(0, 0), (0,)])

    def test_written_lines(self):
        machine = Machine(chain(2))
        machine.take('sa')
        machine.mark('sa')
        self.assertEqual([machine.forget(), machine.marks('sa')], [(1, 0), (1,)])
        machine.take('sa')
        self.assertEqual([machine.fall(('sa',)), machine.marks('sa'), machine.behind('sa')], [(1, None), (1,), 1])

    def test_a_chain(self):
        machine = Machine(chain(), unwritten=(0, 1))
        for _ in range(3):
            machine.take('sa')
            machine.mark('sa')
            machine.come(0)
        machine.mark('sb')
        for _ in range(2):
            machine.take('sb')
            machine.mark('sb')
            machine.come(1)
        self.assertEqual([machine.marks('sb'), machine.forget()], [(0, 1, 2), (3, 0, 0)])
        machine.mark('sc')
        self.assertEqual([machine.forget(), machine.marks('sa'), machine.marks('sb')], [(3, 2, 0), (3,), (2,)])

    def test_a_line_from_a_station_to_itself(self):
        station = ('s', (), ('i', 'j'), ('o',), (), ((('send', 'o', 1),), ()))
        model = (2, (station,), (('s', 'o', 's', 'j', 5),), ((0, 's', 'i', 0), (1, 's', 'i', 0)))
        machine = Machine(model, unwritten=(0,))
        machine.take('s')
        machine.mark('s')
        self.assertEqual([machine.forget(), machine.marks('s')], [(0,), (0, 1)])
        machine.come(0)
        machine.mark('s')
        self.assertEqual([machine.forget(), machine.marks('s')], [(1,), (1,)])


if __name__ == '__main__':
    unittest.main()
