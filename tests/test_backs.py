"""Point 17: all is taken back to a stamp."""

import unittest

from farasnothing.errors import BadStamp, Forgotten
from farasnothing.machine import Machine
from farasnothing.pictures import restarted
from farasnothing.stamps import is_stamp
from tests.checks import Checks
from tests.samples import MODEL, any_values
from tests.test_rows import chain


def ended():
    """A machine in which all was taken."""
    machine = Machine(MODEL)
    for _ in range(3):
        machine.take('tap')
    for _ in range(2):
        machine.come(0)
        machine.take('sink')
    return machine


class Backs(Checks, unittest.TestCase):

    def test_to_the_beginning(self):
        machine = ended()
        machine.mark('tap')
        machine.note(0)
        self.assertEqual(machine.told(0), None)
        machine.back(stamp=(0, 0))
        self.assertEqual(machine.log[-1], ('back', (0, 0)))
        self.assertTrue(machine == Machine(MODEL))

    def test_to_the_stamp_of_a_deed_and_between(self):
        for stamp, many, waiting in (((2, 0), 1, ()), ((1, 0), 1, ()), ((2, 1), 2, (((6, 0), 'b', 4),)),
                                     ((3, 0), 2, (((6, 0), 'b', 4),)), ((3, 1), 3, (((6, 0), 'b', 4), ((7, 0), 'b', 1)))):
            machine = ended()
            deeds = machine.deeds_of('tap')
            machine.back(stamp)
            self.assertEqual([machine.deeds_of('tap'), machine.deeds_of('sink')], [deeds[:many], ()])
            self.assertEqual([machine.waiting('sink'), machine.on_way(0), machine.behind('tap')], [waiting, (), 0])
            plain = Machine(MODEL)
            for _ in range(many):
                plain.take('tap')
            self.assertEqual([machine.worths('tap'), machine.waiting('tap')], [plain.worths('tap'), plain.waiting('tap')])
        machine = ended()
        machine.back((6, 1))
        self.assertEqual([len(machine.deeds_of('sink')), machine.waiting('sink')], [1, (((7, 0), 'b', 1),)])
        machine.back((7, 1))
        self.assertEqual(len(machine.deeds_of('sink')), 1)

    def test_what_was_heard_and_told(self):
        def led():
            machine = Machine(MODEL)
            for _ in range(2):
                machine.take('tap')
            machine.come(0)
            machine.note(0)
            machine.come(0)
            self.assertEqual([machine.heard(0), machine.told(0)], [(7, 0), (7, 0)])
            return machine
        for stamp, told in (((2, 0), (2, 0)), ((2, 1), (6, 0)), ((6, 5), (6, 5)), ((7, 0), (7, 0)), ((9, 0), (7, 0))):
            machine = led()
            machine.back(stamp)
            self.assertEqual([machine.heard(0), machine.told(0)], [told, told], stamp)
        machine = led()
        machine.take('tap')
        machine.note(0)
        machine.come(0)
        machine.come(0)
        self.assertEqual([machine.heard(0), machine.told(0)], [None, None])
        machine.back((20, 3))
        self.assertEqual([machine.heard(0), machine.told(0)], [(20, 3), (20, 3)])
        machine.back((3, 0))
        self.assertEqual([machine.heard(0), machine.told(0)], [(6, 0), (6, 0)])

    def test_told_of_letters_that_are_on_the_way(self):
        machine = Machine(MODEL)
        for _ in range(3):
            machine.take('tap')
        machine.come(0)
        machine.back((3, 1))
        self.assertEqual([machine.heard(0), machine.told(0), machine.on_way(0)],
                         [(6, 0), (7, 0), (('letter', (7, 0), 1),)])
        machine.back((3, 0))
        self.assertEqual([machine.heard(0), machine.told(0), machine.on_way(0)], [(6, 0), (6, 0), ()])

    def test_notices_and_flags_are_gone(self):
        machine = Machine(MODEL)
        for _ in range(3):
            machine.take('tap')
        machine.note(0)
        machine.picture(('tap',))
        self.assertEqual(len(machine.on_way(0)), 4)
        machine.back((9, 0))
        self.assertEqual(machine.on_way(0), (('letter', (6, 0), 4), ('letter', (7, 0), 1)))
        machine.picture(('tap',))
        for _ in range(3):
            machine.come(0)
        drawn = machine.drawn
        self.assertIsNotNone(drawn)
        machine.back((0, 0))
        self.assertEqual(machine.drawn, drawn)

    def test_marks(self):
        machine = Machine(MODEL)
        for _ in range(3):
            machine.take('tap')
            machine.mark('tap')
        machine.come(0)
        machine.come(0)
        machine.mark('sink')
        machine.take('sink')
        machine.mark('sink')
        machine.back((3, 0))
        self.assertEqual([machine.marks('tap'), machine.marks('sink')], [(0, 1, 2), (0,)])
        machine.fall(('sink',))
        self.assertEqual([machine.waiting('sink'), machine.heard(0)], [(((6, 0), 'b', 4),), (6, 0)])

    def test_behind_a_fall(self):
        machine = ended()
        machine.fall(('tap',))
        self.assertEqual(machine.behind('tap'), 3)
        machine.back((3, 0))
        self.assertEqual([machine.behind('tap'), machine.deeds_of('tap'), machine.waiting('sink')],
                         [2, (), (((6, 0), 'b', 4),)])
        machine.take('tap')
        machine.take('tap')
        self.assertEqual([machine.behind('tap'), machine.on_way(0), machine.told(0)], [0, (), (6, 0)])
        machine.take('tap')
        self.assertEqual(machine.on_way(0), (('letter', (7, 0), 1),))

    def test_letters_that_are_gone(self):
        machine = Machine(chain(2), unwritten=(0,))
        for _ in range(3):
            machine.take('sa')
            machine.come(0)
        machine.fall(('sb',))
        machine.take('sa')
        machine.back((1, 0))
        self.assertEqual([machine.behind('sa'), machine.on_way(0), machine.told(0)], [0, (('letter', (1, 0), 1),), (1, 0)])
        machine.take('sa')
        self.assertEqual(machine.on_way(0), (('letter', (1, 0), 1), ('letter', (2, 0), 1)))

    def test_changes_words_and_roofs_stay(self):
        machine = Machine(MODEL, knows='programs', changes=(((2, 0), 0, 9),))
        machine.unite('tap', 'sink')
        machine.learn('tap', 'states')
        machine.take('tap')
        machine.back((0, 0))
        self.assertEqual([machine.knows, machine.roofs, machine.changes],
                         [('states', 'programs'), (('tap', 'sink'),), (((2, 0), 0, 9),)])

    def test_a_machine_made_of_a_picture(self):
        part = (9, (0,), (('bell', (8, 0)),), (('a', 1, (2, 0), 3),), (), ((7, (6, 0)),))
        sink = (2, (), (), (('b', 5, (5, 0), 2),), ((5, 0),), ())
        machine = restarted(MODEL, ((part, sink), (((6, (6, 0), 3),),)))
        self.assertEqual(machine.take('tap')[4], ((0, 7, (6, 0), 3),))
        machine.back((2, 0))
        self.assertEqual([machine.on_way(0), machine.behind('tap'), machine.told(0)], [(('letter', (6, 0), 3),), 0, (6, 0)])
        machine.change((2, 0), 0, 9)
        self.assertEqual(machine.take('tap')[4], ((0, 7, (11, 0), 3),))
        self.assertEqual(machine.on_way(0), (('letter', (6, 0), 3), ('letter', (11, 0), 3)))

    def test_letters_that_are_not_in_the_picture(self):
        part = (9, (0,), (('bell', (8, 0)),), (), (), ((7, (6, 0)),))
        for stamp, heard, told in (((2, 0), (2, 0), (6, 0)), ((0, 0), (0, 0), (6, 0)), ((5, 0), (5, 0), (6, 0)),
                                   ((6, 1), (5, 0), (6, 0))):
            machine = restarted(MODEL, ((part, (2, (), (), (), ((5, 0),), ())), (((6, (6, 0), 3),),)))
            machine.back(stamp)
            self.assertEqual([machine.heard(0), machine.told(0)], [heard, told])
            machine.fall(('sink',))
            self.assertEqual([machine.heard(0), machine.on_way(0)], [heard, (('letter', (6, 0), 3),)])
        part = (9, (0,), (('bell', (8, 0)),), (), (), ((7, (4, 0)),))
        machine = restarted(MODEL, ((part, (7, (), (), (), ((5, 0),), ())), ((),)))
        machine.back((0, 0))
        self.assertEqual([machine.heard(0), machine.told(0)], [(4, 0), (4, 0)])

    def test_forgotten(self):
        machine = ended()
        machine.mark('tap')
        machine.mark('sink')
        machine.back((9, 0))
        machine.forget()
        before = machine.copy()
        for stamp, station in (((0, 0), 'tap'), ((3, 0), 'tap'), ((3, 1), 'sink'), ((6, 0), 'sink'), ((7, 0), 'sink')):
            self.assertRaisesWith(Forgotten, station, machine.back, stamp)
        self.assertTrue(machine == before)
        machine.back((7, 1))
        self.assertEqual(machine.marks('sink'), (2,))

    def test_wrong_stamps(self):
        machine = ended()
        before = machine.copy()
        for value in any_values():
            if not is_stamp(value):
                self.assertRaisesWith(BadStamp, value, machine.back, value)
        self.assertEqual([machine, machine.log], [before, before.log])


if __name__ == '__main__':
    unittest.main()
