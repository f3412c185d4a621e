"""Point 18: changes of delays while stations run."""

import unittest

from farasnothing.errors import BadDelay, BadStamp, NoLine, TooEarly
from farasnothing.machine import Machine
from farasnothing.stamps import is_stamp
from tests.beside import Beside
from tests.checks import Checks
from tests.driving import ALL
from tests.samples import MODEL, RING, any_values
from tests.test_rows import chain

STAMPS = [(time, turn) for time in range(18) for turn in range(3)]


class Changes(Checks, Beside, unittest.TestCase):

    def assertTooEarly(self, stamp, machine, *change):
        before = machine.copy()
        with self.assertRaises(TooEarly) as caught:
            machine.change(*change)
        self.assertEqual(caught.exception.stamp, stamp)
        self.assertTrue(machine == before)
        self.assertEqual(machine.log, before.log)

    def test_the_example(self):
        machine = Machine(MODEL)
        self.assertEqual([machine.note(0), machine.told(0)], [(4, 0), (4, 0)])
        self.assertTooEarly((3, 0), machine, (2, 5), 0, 1)
        machine.change((3, 0), 0, 1)
        told = [machine.take('tap')[0], machine.take('tap')[4], machine.take('tap')[4], machine.promise(0)]
        self.assertEqual(told, [(0, 0), ((0, 0, (6, 0), 4),), ((0, 1, (6, 0), 1),), None])
        self.assertEqual([machine.changes, machine.log[1]], [(((3, 0), 0, 1),), ('change', (3, 0), 0, 1)])

    def test_the_sequence_of_changes(self):
        machine = Machine(RING)
        for stamp, line, delay in (((2, 1), 1, 0), ((3, 0), 0, 1), ((5, 0), 1, 4), ((7, 0), 0, 2)):
            machine.change(stamp, line, delay)
        self.assertEqual(machine.changes, (((3, 0), 0, 1), ((7, 0), 0, 2), ((2, 1), 1, 0), ((5, 0), 1, 4)))
        machine.change((3, 1), 0, 20)
        self.assertEqual(machine.changes, (((3, 0), 0, 1), ((3, 1), 0, 20), ((2, 1), 1, 0), ((5, 0), 1, 4)))
        machine.change((2, 1), 1, 7)
        self.assertEqual(machine.changes, (((3, 0), 0, 1), ((3, 1), 0, 20), ((2, 1), 1, 7)))

    def test_items_that_were_taken(self):
        machine = Machine(MODEL, knows='programs')
        machine.mark('tap')
        for _ in range(2):
            machine.take('tap')
        self.assertTooEarly((2, 1), machine, (2, 0), 0, 9)
        machine.copy().change((2, 1), 0, 9)
        machine.fall(('tap',))
        self.assertTooEarly((2, 1), machine, (1, 0), 0, 9)
        machine.back((2, 0))
        self.assertTooEarly((0, 1), machine, (0, 0), 0, 9)
        machine.change((0, 1), 0, 9)

    def test_a_longer_delay_is_let_from_the_next_item_on(self):
        machine = Machine(MODEL, knows='states')
        machine.survey()
        machine.change((0, 0), 0, 9)
        machine.note(0)
        self.assertEqual(machine.told(0), (9, 0))
        self.assertTooEarly((5, 0), machine, (3, 0), 0, 4)
        self.assertTooEarly((6, 0), machine, (1, 0), 0, 3)
        machine.change((6, 0), 0, 3)
        machine.take('tap')
        self.assertTooEarly((0, 1), machine, (0, 0), 0, 9)
        machine.change((0, 1), 0, 9)
        self.assertTooEarly((6, 0), machine, (2, 0), 0, 3)
        self.assertEqual(machine.take('tap')[4], ((0, 0, (11, 0), 4),))

    def test_never(self):
        machine = Machine(MODEL, knows='programs')
        for _ in range(3):
            machine.take('tap')
        machine.note(0)
        self.assertEqual(machine.told(0), None)
        machine.change((3, 1), 0, 0)
        self.assertTooEarly((3, 1), machine, (3, 0), 0, 0)
        other = Machine(RING, knows='programs')
        other.survey()
        self.assertEqual([other.told(0), other.told(1)], [None, None])
        other.change((0, 0), 1, 0)

    def test_none_without_a_stamp_from_which_it_is_let(self):
        machine = Machine(MODEL, knows='programs')
        for _ in range(3):
            machine.take('tap')
        machine.note(0)
        machine.fall(('tap',))
        self.assertEqual([machine.promise(0), machine.told(0)], [(4, 0), None])
        for stamp in ((0, 0), (3, 0), (3, 1), (90, 7)):
            self.assertTooEarly(None, machine, stamp, 0, 20)
        for _ in range(3):
            machine.take('tap')
        machine.change((3, 1), 0, 20)

    def test_two_lines_one_behind_the_other(self):
        machine = Machine(chain())
        machine.survey()
        self.assertEqual([machine.told(0), machine.told(1)], [(1, 0), (2, 0)])
        self.assertTooEarly((1, 0), machine, (0, 0), 0, 0)
        self.assertTooEarly((2, 0), machine, (0, 0), 1, 0)
        machine.change((2, 0), 1, 0)
        machine.change((0, 0), 1, 1)
        quiet = Machine(chain())
        quiet.note(1)
        self.assertEqual([quiet.told(0), quiet.told(1)], [(0, 0), (1, 0)])
        quiet.copy().change((0, 0), 0, 0)
        quiet.change((0, 0), 0, 1)
        quiet.take('sa')
        quiet.come(0)
        quiet.note(1)
        self.assertEqual(quiet.told(1), (2, 0))
        quiet.take('sa')
        quiet.survey()
        self.assertEqual(quiet.told(1), (2, 0))
        self.assertTooEarly((1, 1), quiet, (1, 0), 0, 0)

    def test_what_follows_by_several_lines_and_alarms(self):
        sender = ('a', (), ('i',), ('o',), (), ((('send', 'o', 1),),))
        second = ('b', (), ('i',), ('o',), ('k',), ((('send', 'o', 1),), (('wait', 'k', 2),)))
        passing = tuple([(name, (), ('i',), ('o',), (), ((('send', 'o', 1),),)) for name in 'cd'])
        last = ('e', (), ('i', 'j'), (), (), ((), ()))
        lines = (('a', 'o', 'b', 'i', 9), ('b', 'o', 'c', 'i', 1), ('c', 'o', 'd', 'i', 1), ('d', 'o', 'e', 'i', 1))
        model = (3, (sender, second, *passing, last), lines, ((3, 'a', 'i', 1), (15, 'e', 'j', 0)))
        machine = Machine(model, knows='programs')
        machine.survey()
        self.assertEqual([machine.told(line) for line in range(4)], [(12, 0), (15, 0), (16, 0), (17, 0)])
        machine = Machine(model, knows='programs', roofs=(('a', 'b', 'c', 'd', 'e'),))
        self.assertEqual([machine.heard(3), machine.take('e')[0], machine.told(3)], [(17, 0), (15, 0), (0, 0)])
        self.assertTooEarly((10, 0), machine, (0, 0), 0, 1)
        self.assertTooEarly((11, 0), machine, (0, 0), 0, 0)
        machine.copy().change((10, 0), 0, 1)
        machine.copy().change((0, 0), 0, 8)
        self.assertTooEarly((4, 0), machine, (0, 0), 0, 7)
        self.assertTooEarly((5, 0), machine, (0, 0), 0, 6)
        words = ('programs', 'delays', 'programs', 'programs', 'programs')
        delays = Machine((*model[:3], ((3, 'a', 'i', 1), (14, 'e', 'j', 0))), knows=words, roofs=machine.roofs)
        self.assertEqual([delays.heard(3), delays.take('e')[0]], [(15, 0), (14, 0)])
        self.assertTooEarly((4, 0), delays, (0, 0), 0, 8)
        delays.learn('b', 'states')
        delays.change((0, 0), 0, 8)

    def test_turns_of_changes_that_are_ahead(self):
        _, stations, (line, other), _ = chain()
        model = (2, stations, ((*line[:4], 3), (*other[:4], 7)), ((3, 'sa', 'i', 1),))
        machine = Machine(model, changes=(((5, 90), 1, 9), ((6, 0), 1, 8)), roofs=(('sa', 'sb'),))
        machine.note(1)
        self.assertEqual([machine.told(0), machine.told(1)], [(0, 0), (14, 0)])
        self.assertTooEarly((5, 89), machine, (0, 0), 0, 0)
        machine.change((5, 89), 0, 0)

    def test_items_that_the_station_at_the_end_has_taken(self):
        sender = ('a', (), ('i',), ('o',), (), ((('send', 'o', 1),),))
        other = ('b', (), ('j', 'i'), (), ('k',), ((), (), ()))
        model = (2, (sender, other), (('a', 'o', 'b', 'i', 4),), ((3, 'a', 'i', 1), (5, 'b', 'j', 1)))
        machine = Machine(model, roofs=(('a', 'b'),))
        self.assertEqual([machine.heard(0), machine.take('b')[0], machine.told(0)], [(7, 0), (5, 0), (0, 0)])
        machine.mark('b')
        machine.fall(('b',))
        self.assertTooEarly((4, 0), machine, (0, 0), 0, 1)
        self.assertTooEarly((5, 0), machine, (0, 0), 0, 0)
        machine.copy().change((5, 0), 0, 0)
        machine.change((4, 0), 0, 1)
        swapped = (2, (sender, ('b', (), ('i', 'j'), (), ('k',), ((), (), ()))), model[2], model[3])
        machine = Machine(swapped, roofs=(('a', 'b'),))
        machine.take('b')
        self.assertTooEarly((5, 0), machine, (0, 0), 0, 0)
        self.assertTooEarly((5, 0), machine, (4, 0), 0, 1)

    def test_no_letter_overtakes_the_last_one_ever_sent(self):
        machine = Machine(MODEL, knows='programs')
        for _ in range(2):
            machine.take('tap')
        machine.note(0)
        self.assertEqual(machine.told(0), (7, 0))
        self.assertTooEarly((6, 0), machine, (2, 1), 0, 1)
        machine.back((2, 1))
        self.assertEqual(machine.told(0), (6, 0))
        machine.mark('sink')
        machine.change((2, 1), 0, 1)
        self.assertEqual(machine.take('tap')[4], ((0, 1, (6, 0), 1),))

    def test_the_stamp_of_too_early_is_let_and_each_lesser_one_is_refused(self):
        refused = none = 0
        for seed in range(60):
            machine, plain, _ = self.lead(seed, 25, kinds=ALL, busy=seed % 3 != 0)
            if seed % 2:
                self.end_and_fall(machine, plain)
            for line, _ in enumerate(machine.model[2][:3]):
                for delay in (0, 3):
                    let = [not plain.touches(stamp, line, delay) for stamp in STAMPS]
                    self.assertEqual(let, sorted(let))
                    least = STAMPS[let.index(True)] if True in let else None
                    for stamp in STAMPS[seed % 5::7]:
                        other = machine.copy()
                        if least is not None and stamp >= least:
                            other.change(stamp, line, delay)
                            continue
                        refused += 1
                        with self.assertRaises(TooEarly) as caught:
                            other.change(stamp, line, delay)
                        answer = caught.exception.stamp
                        none += answer is None
                        if answer is not None:
                            time, turn = answer
                            ahead = (time, turn - 1) if turn else (time - 1, 50)
                            self.assertFalse(plain.touches(answer, line, delay))
                            self.assertTrue(plain.touches(ahead, line, delay))
                        else:
                            self.assertTrue(plain.touches((10 ** 4, 50), line, delay))
        self.assertGreater(refused, 200)
        self.assertGreater(none, 5)

    def end_and_fall(self, machine, plain):
        """Much is taken, so that never is told of lines, and then all fall."""
        names = [station[0] for station in machine.model[1]]
        for _ in range(8):
            for line, _ in enumerate(machine.model[2]):
                while machine.on_way(line):
                    self.order_both(machine, plain, ('come', line))
            for name in names:
                self.order_both(machine, plain, ('take', name))
            self.order_both(machine, plain, ('survey',))
        self.order_both(machine, plain, ('fall', tuple(names)))

    def test_wrong_arguments(self):
        machine = Machine(MODEL)
        for value in any_values():
            if not is_stamp(value):
                self.assertRaisesWith(BadStamp, value, machine.change, value, value, value)
            if type(value) is not int or value != 0:
                self.assertRaisesWith(NoLine, value, machine.change, (0, 0), value, value)
            if type(value) is not int or not 0 <= value <= 20:
                self.assertRaisesWith(BadDelay, value, machine.change, (0, 0), 0, value)
        self.assertRaisesWith(BadDelay, 21, machine.change, (0, 0), 0, 21)
        self.assertEqual([machine, machine.log], [Machine(MODEL), ()])
        machine.change(delay=20, line=0, stamp=(0, 0))
        self.assertEqual(machine.changes, (((0, 0), 0, 20),))


if __name__ == '__main__':
    unittest.main()
