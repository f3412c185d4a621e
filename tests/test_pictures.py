"""Point 15: pictures that are drawn while stations run, and machines that are made of them."""

import random
import unittest

from farasnothing.errors import (BadChanges, BadKnows, BadModel, BadPicture, BadRoofs, Behind, NoStation, UnderWay,
                                 Unreached)
from farasnothing.machine import Machine
from farasnothing.oneclock import Clock
from farasnothing.pictures import restarted
from farasnothing.relays import clock_of
from tests.checks import Checks
from tests.driving import do_any, made_machine
from tests.samples import MODEL, RING, any_values, part_at, paths_of, replaced

def has_form(model, picture):
    """Whether a picture has the form that is asked of it; each thing is asked in turn."""
    def whole(value, many=None):
        return type(value) is tuple and many in (None, len(value))

    def count(value):
        return type(value) is int and value >= 0

    def stamp(value):
        return whole(value, 2) and count(value[0]) and count(value[1])

    def letter(value):
        return whole(value, 3) and count(value[0]) and stamp(value[1]) and count(value[2]) and value[2] < model[0]

    if not whole(picture, 2) or not whole(picture[0], len(model[1])) or not whole(picture[1], len(model[2])):
        return False
    numbers = {line: [] for line, _ in enumerate(model[2])}
    sent = {}
    for (name, cells, ins, _, alarms, _), part in zip(model[1], picture[0]):
        into = [line for line, told in enumerate(model[2]) if told[2] == name]
        out_of = [line for line, told in enumerate(model[2]) if told[0] == name]
        if not whole(part, 6) or not count(part[0]) or not whole(part[1], len(cells)) or not whole(part[2]):
            return False
        if not all([count(worth) and worth < model[0] for worth in part[1]]):
            return False
        if not all([whole(one, 2) and one[0] in alarms and stamp(one[1]) for one in part[2]]):
            return False
        places = [alarms.index(one[0]) for one in part[2]]
        if places != sorted(set(places)):
            return False
        if not whole(part[3]) or not all([whole(one, 4) and one[0] in ins and letter(one[1:]) for one in part[3]]):
            return False
        if not whole(part[4], len(into)) or not all([one is None or stamp(one) for one in part[4]]):
            return False
        if not whole(part[5], len(out_of)):
            return False
        if not all([whole(one, 2) and count(one[0]) and (one[1] is None or stamp(one[1])) for one in part[5]]):
            return False
        sent.update(zip(out_of, [one[0] for one in part[5]]))
        for port in ins:
            waiting = [one[1:] for one in part[3] if one[0] == port]
            lines = [line for line in into if model[2][line][3] == port]
            if lines:
                numbers[lines[0]] += waiting
                continue
            first = [one for one in model[3] if one[1:3] == (name, port)]
            first = sorted([(number, (one[0], 0), one[3]) for number, one in enumerate(first)],
                           key=lambda one: (one[1], one[0]))
            if waiting != first[len(first) - len(waiting):] or len(waiting) > len(first):
                return False
    for line, way in enumerate(picture[1]):
        if not whole(way) or not all([letter(one) for one in way]):
            return False
        numbers[line] += way
        told = [one[0] for one in numbers[line]]
        stamps = [one[1] for one in numbers[line]]
        if told != sorted(set(told)) or stamps != sorted(stamps) or [one for one in told if one >= sent[line]]:
            return False
    return True


KINDS = ['take'] * 8 + ['come'] * 12 + ['picture'] * 3 + ['survey', 'survey', 'note', 'mark', 'learn', 'change']


def under_way():
    """A machine of the example; one letter waits, and a picture was begun at the tap."""
    machine = Machine(MODEL)
    for _ in range(2):
        machine.take('tap')
    machine.come(0)
    machine.take('tap')
    machine.picture(('tap',))
    return machine


class Drawn(Checks, unittest.TestCase):

    def test_a_picture(self):
        machine = under_way()
        self.assertEqual([machine.on_way(0), machine.drawn], [(('letter', (7, 0), 1), ('flag',)), None])
        self.assertEqual(machine.log[-1], ('picture', ('tap',)))
        self.assertEqual([machine.come(0), machine.come(0)], [('letter', (7, 0), 1), ('flag',)])
        sink = (0, (), (), (('b', 0, (6, 0), 4), ('b', 1, (7, 0), 1)), ((7, 0),), ())
        self.assertEqual(machine.drawn, (((3, (0,), (), (), (), ((2, (7, 0)),)), sink), ((),)))
        self.assertEqual([machine.on_way(0), machine.log[-1]], [(), ('come', 0)])

    def test_letters_ahead_of_the_flag(self):
        machine = under_way()
        machine.fall(('sink',))
        machine.picture(('sink', 'tap'))
        self.assertEqual(machine.on_way(0), (('letter', (6, 0), 4), ('letter', (7, 0), 1), ('flag',)))
        machine.come(0)
        machine.take('sink')
        machine.come(0)
        machine.note(0)
        machine.come(0)
        sink = (0, (), (), (), ((0, 0),), ())
        ways = (((0, (6, 0), 4), (1, (7, 0), 1)),)
        self.assertEqual(machine.drawn, (((3, (0,), (), (), (), ((2, (7, 0)),)), sink), ways))
        machine.come(0)
        self.assertEqual(machine.heard(0), None)

    def test_alarms_and_first_letters(self):
        machine = Machine(MODEL)
        machine.take('tap')
        machine.picture(('tap',))
        machine.take('tap')
        machine.come(0)
        tap = (1, (1,), (('bell', (3, 0)),), (('a', 1, (2, 0), 3),), (), ((0, None),))
        self.assertEqual(machine.drawn, ((tap, (0, (), (), (), ((0, 0),), ())), ((),)))

    def test_under_one_roof(self):
        machine = Machine(MODEL, roofs=(('sink', 'tap'),))
        for _ in range(2):
            machine.take('tap')
        machine.picture(stations=('sink',))
        tap = (2, (0,), (('bell', (3, 0)),), (), (), ((1, (6, 0)),))
        self.assertEqual(machine.drawn, ((tap, (0, (), (), (), ((6, 0),), ())), (((0, (6, 0), 4),),)))
        self.assertEqual([machine.told(0), machine.on_way(0)], [(6, 0), (('letter', (6, 0), 4),)])
        machine.come(0)
        machine.picture(('tap',))
        self.assertEqual(machine.drawn[0][1], (0, (), (), (('b', 0, (6, 0), 4),), ((7, 0),), ()))
        self.assertEqual([machine.drawn[1], machine.told(0)], [((),), (7, 0)])
        machine.unite('tap', 'sink')
        self.assertEqual(machine.heard(0), (7, 0))

    def test_what_was_heard_of_an_inner_line_stays_heard(self):
        machine = Machine(MODEL, roofs=(('sink', 'tap'),))
        machine.picture(('tap',))
        self.assertEqual([machine.heard(0), machine.told(0), machine.drawn[0][1][4]], [(4, 0), (4, 0), ((4, 0),)])
        again = restarted(MODEL, machine.drawn)
        self.assertEqual([again.heard(0), again.told(0)], [(4, 0), (4, 0)])

    def test_a_ring(self):
        machine = Machine(RING)
        machine.picture(('b',))
        self.assertEqual([machine.on_way(0), machine.on_way(1)], [(), (('flag',),)])
        machine.come(1)
        self.assertEqual([machine.on_way(0), machine.drawn], [(('flag',),), None])
        with self.assertRaises(UnderWay):
            machine.picture(('a',))
        machine.come(0)
        b = (0, (), (('k', (9, 0)),), (), ((0, 0),), ((0, None),))
        self.assertEqual(machine.drawn, (((0, (), (), (), ((0, 0),), ((0, None),)), b), ((), ())))
        machine.picture(('a', 'b'))
        self.assertEqual([machine.on_way(0), machine.on_way(1)], [(('flag',),), (('flag',),)])

    def test_no_lines(self):
        model = (2, (('a', (), (), (), ('k',), ((),)),), (), ((4, 'a', 'k', 0),))
        machine = Machine(model)
        machine.picture(('a',))
        self.assertEqual(machine.drawn, (((0, (), (('k', (4, 0)),), (), (), ()),), ()))
        machine.take('a')
        machine.picture(('a',))
        self.assertEqual(machine.drawn, (((1, (), (), (), (), ()),), ()))

    def test_what_ends_a_picture(self):
        for order in (('fall', ('sink',)), ('fall', ('tap',)), ('back', (90, 0)), ('unite', 'sink', 'tap')):
            machine = under_way()
            getattr(machine, order[0])(*order[1:])
            self.assertNotIn(('flag',), machine.on_way(0))
            while machine.on_way(0):
                machine.come(0)
            self.assertIsNone(machine.drawn)
            while machine.behind('tap'):
                machine.take('tap')
            machine.picture(('tap',))
            while machine.on_way(0):
                machine.come(0)
            self.assertIsNotNone(machine.drawn)

    def test_what_ends_no_picture(self):
        for order in (('unite', 'sink', 'sink'), ('survey',), ('mark', 'tap'), ('forget',), ('learn', 'tap', 'states'),
                      ('note', 0), ('change', (9, 0), 0, 2)):
            machine = under_way()
            getattr(machine, order[0])(*order[1:])
            self.assertIn(('flag',), machine.on_way(0))
            while machine.on_way(0):
                machine.come(0)
            self.assertEqual(machine.drawn[0][1][3], (('b', 0, (6, 0), 4), ('b', 1, (7, 0), 1)))
        both = Machine(RING, roofs=(('a', 'b'),))
        both.picture(('a',))
        self.assertIsNotNone(both.drawn)

    def test_a_fall_keeps_the_last_picture(self):
        machine = under_way()
        machine.come(0)
        machine.come(0)
        drawn = machine.drawn
        machine.picture(('tap',))
        machine.fall(('tap', 'sink'))
        self.assertEqual([machine.drawn, machine.on_way(0)],
                         [drawn, (('letter', (6, 0), 4), ('letter', (7, 0), 1))])
        self.assertRaisesNaming(Behind, 'tap', machine.picture, ('tap',))

    def test_stations_that_are_not_reached(self):
        station = [(name, (), ('i',), ('o',), (), ((),)) for name in 'abcd']
        model = (2, tuple(station), (('b', 'o', 'a', 'i', 1), ('a', 'o', 'c', 'i', 1)), ())
        machine = Machine(model, roofs=(('c', 'd'),))
        before = machine.copy()
        self.assertRaisesNaming(Unreached, 'b', machine.picture, ('a',))
        self.assertRaisesNaming(Unreached, 'a', machine.picture, ('d', 'c'))
        self.assertRaisesNaming(Unreached, 'b', machine.picture, ('a', 'd'))
        machine.copy().picture(('b',))
        machine.copy().picture(('d', 'b'))
        other = Machine(model)
        self.assertRaisesNaming(Unreached, 'd', other.picture, ('b', 'c'))
        self.assertRaisesNaming(Unreached, 'a', other.picture, ('d',))
        self.assertEqual([machine, machine.log], [before, ()])

    def test_the_sequence_of_errors(self):
        machine = Machine(RING)
        machine.survey()
        machine.take('b')
        machine.fall(('b',))
        self.assertRaisesNaming(Behind, 'b', machine.picture, ('a',))
        machine.survey()
        machine.take('b')
        machine.picture(('a',))
        with self.assertRaises(UnderWay):
            machine.picture(('b',))
        alone = (2, (*RING[1], ('c', (), (), (), (), ())), RING[2], RING[3])
        machine = Machine(alone)
        machine.survey()
        machine.take('b')
        machine.fall(('b',))
        self.assertRaisesNaming(Unreached, 'c', machine.picture, ('a',))
        self.assertRaisesNaming(Behind, 'b', machine.picture, ('c', 'a'))

    def test_wrong_stations(self):
        machine = Machine(MODEL)
        for value in any_values():
            if not isinstance(value, tuple) or not value or value == ('tap', 'tap'):
                self.assertRaisesWith(NoStation, value, machine.picture, value)
            elif value != ('tap',):
                self.assertRaisesWith(NoStation, value[0], machine.picture, value)
            if value != 'tap':
                self.assertRaisesWith(NoStation, value, machine.picture, ('sink', value, 'sink'))
        self.assertEqual([machine, machine.log], [Machine(MODEL), ()])


class Restarted(Checks, unittest.TestCase):

    def pictures(self, seeds, many=90, **named):
        """Machines that were led, each with a picture that was just completed."""
        for seed in seeds:
            machine = made_machine(seed, **named)
            dice = random.Random(seed + 60)
            for _ in range(many):
                drawn = machine.drawn
                done = do_any(machine, dice, KINDS)
                if machine.drawn != drawn and done[0][0] in ('come', 'picture'):
                    yield machine, machine.drawn, dice

    def lead_on(self, machine, dice, many):
        for _ in range(many):
            do_any(machine, dice, ['take'] * 6 + ['come'] * 8 + ['survey', 'survey', 'note', 'mark', 'fall', 'forget'])

    def test_they_go_on_as_the_model_does(self):
        told = 0
        for machine, drawn, dice in self.pictures(range(50), busy=True):
            again = restarted(machine.model, drawn, knows=machine.knows, roofs=machine.roofs, changes=machine.changes)
            clock = clock_of(again)
            self.lead_on(again, dice, 80)
            plain = Clock(machine.model, changes=machine.changes)
            list(plain.run(250))
            list(clock.run(250))
            for station, part in zip(machine.model[1], drawn[0]):
                deeds = again.deeds_of(station[0])
                full = tuple([deed for deed in plain.deeds if deed[1] == station[0]])[part[0]:]
                self.assertEqual(deeds[:len(full)], full[:len(deeds)])
                other = tuple([deed for deed in clock.deeds if deed[1] == station[0]])
                self.assertEqual(other[:len(full)], full[:len(other)])
                told += len(deeds)
        self.assertGreater(told, 200)

    def test_what_they_have(self):
        many = 0
        for machine, drawn, _ in self.pictures(range(40, 80), many=60):
            many += 1
            again = restarted(machine.model, drawn, changes=machine.changes)
            parts, ways = drawn
            self.assertEqual([again.unwritten, again.log, again.drawn, again.changes],
                             [(), (), None, machine.changes])
            for station, part in zip(machine.model[1], parts):
                name = station[0]
                waiting = [(stamp, port, worth) for port, _, stamp, worth in part[3]]
                waiting += [(stamp, alarm, 0) for alarm, stamp in part[2]]
                ranks = station[4] + station[2]
                self.assertEqual([again.deeds_of(name), again.worths(name), again.marks(name), again.behind(name)],
                                 [(), part[1], (0,), 0])
                self.assertEqual(again.waiting(name),
                                 tuple(sorted(waiting, key=lambda item: (item[0], ranks.index(item[1])))))
                into = [line for line, told in enumerate(machine.model[2]) if told[2] == name]
                self.assertEqual([again.wires[line].hears for line in into], list(part[4]))
                for line, heard in zip(into, part[4]):
                    sender = [other[0] for other in machine.model[1]].index(machine.model[2][line][0])
                    out_of = [other for other, told in enumerate(machine.model[2]) if told[0] == machine.model[2][line][0]]
                    last = parts[sender][5][out_of.index(line)][1]
                    told = heard if last is None or heard is None else max(heard, last)
                    self.assertEqual(again.told(line), told)
            for line, way in enumerate(ways):
                self.assertEqual(again.on_way(line), tuple([('letter', *letter[1:]) for letter in way]))
        self.assertGreater(many, 30)

    def test_a_picture_at_once_is_the_same(self):
        for machine, drawn, _ in self.pictures(range(100, 120), many=60):
            names = tuple([station[0] for station in machine.model[1]])
            again = restarted(machine.model, drawn, roofs=(names,), changes=machine.changes)
            before = [again.heard(line) for line, _ in enumerate(machine.model[2])]
            again.picture(stations=names[:1])
            parts = [(0, *part[1:4]) for part in drawn[0]]
            self.assertEqual([part[:4] for part in again.drawn[0]], parts)
            self.assertEqual([part[5] for part in again.drawn[0]], [part[5] for part in drawn[0]])
            self.assertEqual(again.drawn[1], drawn[1])
            self.assertEqual([again.heard(line) for line, _ in enumerate(machine.model[2])], before)

    def test_the_last_letter_alone_counts(self):
        machine = under_way()
        machine.come(0)
        machine.come(0)
        machine.take('sink')
        machine.take('sink')
        machine.picture(('tap', 'sink'))
        machine.come(0)
        again = restarted(MODEL, machine.drawn)
        self.assertEqual([again.told(0), again.heard(0), again.promise(0)], [(7, 0), (7, 0), None])
        self.assertEqual(again.waiting('sink'), ())
        again.survey()
        again.back((3, 0))
        self.assertEqual([again.told(0), again.heard(0)], [(7, 0), (7, 0)])
        model = (*MODEL[:3], ((0, 'tap', 'a', 1), (2, 'tap', 'a', 3), (4, 'tap', 'a', 4)))
        part = (3, (0,), (), (('a', 2, (4, 0), 4),), (), ((5, (9, 0)),))
        again = restarted(model, ((part, (0, (), (), (), ((1, 0),), ())), ((),)))
        self.assertEqual([again.promise(0), again.told(0), again.take('tap')[4]],
                         [(9, 0), (9, 0), ((0, 5, (9, 0), 4),)])
        self.assertEqual(again.on_way(0), (('letter', (9, 0), 4),))
        one = restarted(model, ((part, (0, (), (), (('b', 3, (6, 0), 1),), ((6, 0),), ())), (((4, (9, 0), 1),),)))
        one.survey()
        one.back((5, 0))
        self.assertEqual([one.heard(0), one.told(0), one.on_way(0)], [(6, 0), (9, 0), (('letter', (9, 0), 1),)])
        one.come(0)
        one.survey()
        one.fall(('sink',))
        self.assertEqual([one.on_way(0), one.waiting('sink')], [(('letter', (9, 0), 1),), (((6, 0), 'b', 1),)])

    def test_letters_that_are_lacking_behind_a_restart(self):
        part = (9, (0,), (('bell', (8, 0)),), (('a', 1, (2, 0), 3),), (), ((7, (6, 0)),))
        sink = (2, (), (), (('b', 5, (5, 0), 2),), ((5, 0),), ())
        again = restarted(MODEL, ((part, sink), (((6, (6, 0), 3),),)))
        again.take('tap')
        again.come(0)
        again.come(0)
        self.assertEqual([again.on_way(0), len(again.waiting('sink'))], [(), 3])
        self.assertEqual(again.fall(('sink',)), (None, 0))
        self.assertEqual([again.on_way(0), again.waiting('sink')],
                         [(('letter', (6, 0), 3), ('letter', (6, 0), 3)), (((5, 0), 'b', 2),)])
        again.come(0)
        again.mark('sink')
        again.come(0)
        again.fall(('sink', 'tap'))
        self.assertEqual([again.on_way(0), len(again.waiting('sink'))], [(('letter', (6, 0), 3),), 2])
        self.assertEqual(again.take('tap')[4], ((0, 7, (6, 0), 3),))
        self.assertEqual(again.on_way(0), (('letter', (6, 0), 3),))

    def test_knows_roofs_and_changes(self):
        machine = under_way()
        machine.come(0)
        machine.come(0)
        again = restarted(picture=machine.drawn, model=MODEL, knows=('states', 'delays'), roofs=(('sink', 'tap'),),
                          changes=(((5, 0), 0, 1),))
        self.assertEqual([again.knows, again.roofs, again.changes],
                         [('states', 'delays'), (('tap', 'sink'),), (((5, 0), 0, 1),)])
        self.assertTrue(restarted(MODEL, machine.drawn) == restarted(MODEL, machine.drawn, knows='delays', roofs=()))

    def test_of_the_beginning(self):
        machine = Machine(MODEL)
        machine.picture(('tap',))
        machine.come(0)
        self.assertTrue(restarted(MODEL, machine.drawn) == Machine(MODEL))


class BadPictures(Checks, unittest.TestCase):

    PART = (3, (2,), (('bell', (3, 0)),), (('a', 1, (2, 0), 3),), (), ((9, (8, 0)),))
    SINK = (2, (), (), (('b', 5, (6, 0), 4), ('b', 6, (7, 0), 1)), ((7, 0),), ())
    PICTURE = ((PART, SINK), (((7, (7, 0), 1), (8, (8, 0), 2)),))

    def test_any_other_part(self):
        wrong = right = 0
        for model, picture in ((MODEL, self.PICTURE), *[(machine.model, drawn) for machine, drawn in self.drawn(40)]):
            values = any_values() if model == MODEL else [0, 1, 5, (3, 0), (9, 1), None, (), True, 'a', [], 10 ** 9]
            for path in paths_of(picture):
                part = part_at(picture, path)
                for value in [*values, list(part) if isinstance(part, tuple) else None]:
                    other = replaced(picture, path, value)
                    if has_form(model, other):
                        restarted(model, other)
                        right += 1
                    else:
                        wrong += 1
                        self.assertRaisesWith(BadPicture, other, restarted, model, other)
        self.assertGreater(wrong, 5000)
        self.assertGreater(right, 300)

    def drawn(self, many):
        for seed in range(many):
            machine = made_machine(seed, busy=True, most=2)
            dice = random.Random(seed)
            for _ in range(60):
                do_any(machine, dice, KINDS)
                if machine.drawn is not None and seed % 4 == 0:
                    yield machine, machine.drawn
                    break

    def test_what_is_not_asked(self):
        for path, value in (((0, 0, 0), 10 ** 9), ((0, 1, 0), 0), ((0, 1, 4, 0), None), ((0, 1, 4, 0), (99, 3)),
                            ((0, 0, 5, 0), (9, None)), ((0, 0, 5, 0), (10 ** 30, (0, 0))), ((0, 0, 1, 0), 4),
                            ((0, 0, 2), ()), ((0, 0, 2, 0, 1), (0, 7)), ((0, 0, 3), ()), ((0, 1, 3), ()), ((1, 0), ()),
                            ((0, 1, 3, 0, 1), 2), ((1, 0, 0, 1), (8, 0)), ((1, 0, 0, 2), 4)):
            restarted(MODEL, replaced(self.PICTURE, path, value))

    def test_letters_of_a_line_rise(self):
        for path, value in (((0, 1, 3, 0, 1), 6), ((0, 1, 3, 1, 1), 5), ((0, 1, 3, 1, 1), 4), ((0, 1, 3, 1, 1), 7),
                            ((1, 0, 0, 0), 6), ((1, 0, 0, 0), 8), ((1, 0, 1, 0), 9), ((1, 0, 1, 0), 7),
                            ((0, 1, 3, 0, 2), (7, 1)), ((0, 1, 3, 1, 2), (5, 9)), ((1, 0, 0, 1), (6, 9)),
                            ((1, 0, 0, 1), (8, 1)), ((1, 0, 1, 1), (6, 0)), ((0, 0, 5, 0, 0), 8), ((0, 0, 5, 0, 0), 0)):
            picture = replaced(self.PICTURE, path, value)
            self.assertRaisesWith(BadPicture, picture, restarted, MODEL, picture)

    def test_first_letters_and_alarms(self):
        first = ('a', 0, (0, 0), 1)
        last = ('a', 1, (2, 0), 3)
        station = ('tap', (('n', 0),), ('a',), ('o',), ('l', 'bell'), ((), (), ()))
        model = (5, (station, MODEL[1][1]), MODEL[2], MODEL[3])
        for letters, right in (((), True), ((last,), True), ((first, last), True), ((first,), False),
                               ((last, first), False), ((last, last), False), ((first, first, last), False),
                               ((('a', 1, (2, 0), 2),), False), ((('a', 0, (2, 0), 3),), False),
                               ((('a', 1, (2, 1), 3),), False), ((first, last, ('a', 2, (9, 0), 1)), False)):
            for alarms, set_right in (((), True), ((('l', (1, 0)),), True), ((('bell', (1, 0)),), True),
                                      ((('l', (1, 0)), ('bell', (0, 0))), True), ((('bell', (0, 0)), ('l', (1, 0))), False),
                                      ((('l', (1, 0)), ('l', (1, 0))), False), ((('a', (1, 0)),), False)):
                part = (0, (0,), alarms, letters, (), ((9, (8, 0)),))
                picture = ((part, self.SINK), self.PICTURE[1])
                if right and set_right:
                    again = restarted(model, picture)
                    self.assertEqual(len(again.waiting('tap')), len(letters) + len(alarms))
                else:
                    self.assertRaisesWith(BadPicture, picture, restarted, model, picture)

    def test_the_sequence_of_errors(self):
        for value in any_values():
            self.assertRaisesWith(BadModel, value, restarted, value, value, knows=value)
            self.assertRaisesWith(BadPicture, value, restarted, MODEL, value, knows=value, roofs=value, changes=value)
            if value != 'delays':
                self.assertRaisesWith(BadKnows, value, restarted, MODEL, self.PICTURE, knows=value, roofs=value)
            if value not in ((), (('tap',),)):
                self.assertRaisesWith(BadRoofs, value, restarted, MODEL, self.PICTURE, roofs=value, changes=value)
            if value != ():
                self.assertRaisesWith(BadChanges, value, restarted, MODEL, self.PICTURE, changes=value)
        with self.assertRaises(TypeError):
            restarted(MODEL, self.PICTURE, 'delays')

    def test_parts_more_or_fewer(self):
        parts, ways = self.PICTURE
        for picture in ((parts[:1], ways), (parts[::-1], ways), (parts + parts[:1], ways), (parts, ()),
                        (parts, ways + ((),)), (parts, ways, ()), (parts,), [parts, ways], (list(parts), ways),
                        (parts, list(ways)), (parts, ([],))):
            self.assertRaisesWith(BadPicture, picture, restarted, MODEL, picture)
        for place in (0, 1):
            part = parts[place]
            for other in (part[:5], part + ((),), part[:4] + part[5:] + part[4:5], (part[0], part[1] + (0,), *part[2:]),
                          (*part[:4], part[4] + ((1, 0),), part[5]), (*part[:5], part[5] + ((1, None),)),
                          (*part[:5], part[5][1:] if place == 0 else ((0, None),)), (-1, *part[1:]),
                          (*part[:4], part[4][1:] if place else (None,), part[5])):
                picture = (replaced(parts, (place,), other), ways)
                self.assertRaisesWith(BadPicture, picture, restarted, MODEL, picture)


if __name__ == '__main__':
    unittest.main()
