"""Point 12: the fewest notices, prospects, and answers made by others."""

import random
import unittest

from farasnothing.errors import BadCount, NoItem, NoStation, OnWay
from farasnothing.levels import shows_fewest
from farasnothing.machine import Machine
from farasnothing.notices import fewest, prospects
from tests.beside import Beside
from tests.checks import Checks
from tests.driving import ALL, all_come, driven
from tests.heard import Heard, is_below, net_pair
from tests.samples import MODEL, RING, any_values, part_at, paths_of, replaced

STILL = (RING[0], RING[1], tuple([line[:4] + (0,) for line in RING[2]]), RING[3])


def crossed(ahead, delays=(2, 3)):
    """A ring as in the example, beside it a station that sends to b on a line with a delay."""
    b = ('b', (), ('x', 'z'), ('y',), ('k',), ((), (), ()))
    c = ('c', (), ('f',), ('o',), ('k',), ((), ()))
    lines = (('a', 'y', 'b', 'x', delays[0]), ('b', 'y', 'a', 'x', delays[1]), ('c', 'o', 'b', 'z', 4))
    return (2, (RING[1][0], b, c), lines, ((9, 'b', 'k', 0), (ahead, 'c', 'k', 0)))


class Fewest(Checks, Beside, unittest.TestCase):

    def test_the_example(self):
        machine = Machine(RING)
        self.assertEqual([fewest(machine, 'b', 8)[:2], fewest(machine, 'b', 3)[0], prospects(machine)],
                         [('notices', (1, 0, 1, 0)), 'more', ('none', 'notices')])
        machine.unite('a', 'b')
        self.assertEqual([machine.may_take('b'), machine.heard(0)], [True, (14, 0)])
        self.assertEqual([fewest(machine, 'b', 0), prospects(machine)], [('notices', (), ()), ('none', 'goes')])

    def test_no_notices_at_all(self):
        machine = Machine(MODEL)
        for most in (0, 1, 8):
            self.assertEqual(fewest(machine, 'tap', most), ('notices', (), ()))
        self.assertIs(shows_fewest(machine, 'tap', 0, ('notices', (), ())), True)
        self.assertIs(shows_fewest(machine, 'tap', 8, ('notices', (0,), ((((0, 0),),),))), False)
        self.assertIs(shows_fewest(machine, 'tap', 8, ('more', (((((0, 0),),),) * 9), (0,) * 9)), False)

    def test_by_how_many(self):
        machine = Machine(RING)
        levels = fewest(machine, 'b', 8)[2]
        self.assertEqual(len(levels), 4)
        for most in range(4):
            kind, told, lines = fewest(machine, 'b', most)
            self.assertEqual([kind, len(told)], ['more', most + 1])
            self.assertGreater(len(lines), most)
            self.assertIs(shows_fewest(machine, 'b', most, (kind, levels[:most + 1], lines)), True)
            for other in (most + 2, most):
                self.assertIs(shows_fewest(machine, 'b', most, (kind, levels[:other], lines)), other == most + 1 or other > 4)
        machine.note(1)
        machine.come(1)
        self.assertEqual(fewest(machine, 'b', 8)[1], (0, 1, 0))
        machine.survey()
        self.assertEqual(fewest(machine, 'b', 8)[1], ())

    def test_never(self):
        machine = Machine(STILL)
        self.assertEqual([fewest(machine, 'b', 4), prospects(machine)],
                         [('never', ((0, None), (0, None))), ('none', 'never')])
        for tops, shown in ((((0, None), (0, None)), True), (((8, None), (8, None)), True), (((0, None), (9, 0)), False),
                            (((9, 0), (9, 0)), False), (((8, 7), (8, None)), False), (((8, None), (8, 7)), False),
                            (((8, 7), (8, 7)), False), ((None, None), False), (((0, None),), False), ((), False),
                            (((0, None), (0, None), (0, None)), False), ([(0, None), (0, None)], False),
                            (((0, True), (0, None)), False), (((0, None), (None, None)), False),
                            (((8, None), None), False), (((0, None), (0, -1)), False), (((0, None), [0, None]), False)):
            self.assertIs(shows_fewest(machine, 'b', 4, ('never', tops)), shown, tops)
        self.assertIs(shows_fewest(machine, 'b', 4, ('never', ((0, None), (0, None)), ())), False)
        self.assertIs(shows_fewest(Machine(RING), 'b', 4, ('never', ((8, None), (8, None)))), False)

    def test_tops_of_all_kinds(self):
        machine = Machine(crossed(3, delays=(0, 0)))
        self.assertEqual(fewest(machine, 'b', 8), ('never', ((0, None), (0, None), (7, 0))))
        self.assertEqual(prospects(machine), ('none', 'never', 'goes'))
        machine = Machine(crossed(3))
        kind, tops = fewest(machine, 'b', 8)
        self.assertEqual([kind, tops], ['never', ((12, 0), (10, 0), (7, 0))])
        self.assertEqual(prospects(machine), ('none', 'never', 'goes'))
        machine.take('c')
        self.assertEqual([fewest(machine, 'b', 8)[:2], prospects(machine)], [('notices', (1, 0, 2, 1, 0)),
                                                                            ('none', 'notices', 'none')])
        late = Machine(crossed(3, delays=(0, 4)))
        self.assertEqual(fewest(late, 'b', 8)[0], 'never')

    def test_lines_whose_time_rises_for_ever(self):
        names = [('a', (), ('x',), ('y',), (), ((),)), ('b', (), ('x',), ('y',), (), ((),)),
                 ('c', (), ('v', 'w'), (), ('k',), ((), (), ())), ('d', (), ('f',), ('o',), (), ((),))]
        lines = (('a', 'y', 'b', 'x', 2), ('b', 'y', 'a', 'x', 3), ('d', 'o', 'c', 'v', 4))
        machine = Machine((2, tuple(names), lines, ((5, 'c', 'k', 0), (0, 'd', 'f', 1))))
        self.assertEqual(fewest(machine, 'c', 8), ('never', (None, None, (4, 0))))
        quick = Machine((2, tuple(names), lines[:1] + (('b', 'y', 'a', 'x', 0),) + lines[2:], machine.model[3]))
        self.assertEqual(fewest(quick, 'c', 8), ('never', (None, None, (4, 0))))
        still = Machine((2, tuple(names), (('a', 'y', 'b', 'x', 0), ('b', 'y', 'a', 'x', 0), lines[2]), machine.model[3]))
        self.assertEqual(fewest(still, 'c', 8), ('never', ((0, None), (0, None), (4, 0))))
        changes = (((40, 0), 0, 0), ((40, 7), 1, 0))
        far = Machine((2, tuple(names), lines, machine.model[3]), changes=changes)
        self.assertEqual(fewest(far, 'c', 8), ('never', ((40, None), (40, None), (4, 0))))
        turns = Machine((2, tuple(names), lines, machine.model[3]), changes=(((40, 90), 0, 0), ((40, 60), 1, 0)))
        self.assertEqual(fewest(turns, 'c', 8), ('never', ((40, None), (40, None), (4, 0))))
        ended = Machine((2, tuple(names), lines, ((5, 'c', 'k', 0),)))
        self.assertEqual([fewest(ended, 'c', 8)[:2], fewest(ended, 'c', 0)[0]], [('notices', (2,)), 'more'])

    def test_what_was_heard_is_below_the_tops(self):
        names = (('a', (), ('x',), ('y',), (), ((),)), ('b', (), ('x',), ('y',), (), ((),)),
                 ('c', (), ('v',), (), ('k',), ((), ())), ('d', (), ('f',), ('o',), (), ((),)))
        lines = (('a', 'y', 'b', 'x', 0), ('b', 'y', 'a', 'x', 0), ('d', 'o', 'c', 'v', 4))
        machine = Machine((2, names, lines, ((5, 'c', 'k', 0), (0, 'd', 'f', 1))))
        low, high = ((0, None), (0, None), (4, 0)), (None, None, (4, 0))
        self.assertEqual(fewest(machine, 'c', 8), ('never', low))
        machine.survey()
        self.assertEqual(fewest(machine, 'c', 8), ('never', high))
        self.assertIs(shows_fewest(machine, 'c', 8, ('never', high)), True)
        self.assertIs(shows_fewest(machine, 'c', 8, ('never', low)), False)

    def test_letters_that_wait_at_the_end_of_a_line(self):
        passing = (('a', (), ('f',), ('o',), (), ((('send', 'o', 1),),)), ('b', (), ('i',), ('o',), (), ((),)),
                   ('c', (), ('i',), (), ('k',), ((), ())))
        lines = (('a', 'o', 'b', 'i', 1), ('b', 'o', 'c', 'i', 2))
        machine = Machine((2, passing, lines, ((1, 'a', 'f', 0), (9, 'c', 'k', 0))))
        machine.take('a')
        machine.come(0)
        machine.note(0)
        machine.come(0)
        self.assertEqual([machine.heard(0), machine.waiting('b'), machine.promise(1)],
                         [None, (((2, 0), 'i', 1),), (4, 0)])
        self.assertEqual(fewest(machine, 'c', 8), ('never', (None, (4, 0))))
        self.assertEqual(prospects(machine), ('none', 'goes', 'never'))
        machine.take('b')
        self.assertEqual(fewest(machine, 'c', 8)[:2], ('notices', (1,)))

    def test_busy_machines_beside_plain_ones(self):
        waits = 0
        for seed in range(60):
            machine, plain, _ = self.lead(seed, 25, kinds=['take'] * 3 + ['come'] * 5 + ['note', 'survey', 'mark'], busy=True)
            for line, _ in enumerate(machine.model[2]):
                while machine.on_way(line):
                    self.order_both(machine, plain, ('come', line))
            heard = Heard(plain)
            for name in plain.names:
                if not machine.waiting(name):
                    continue
                waits += not machine.may_take(name)
                for most in (0, 2):
                    answer = fewest(machine, name, most)
                    least = heard.least(name, most)
                    self.assertEqual(answer[1] if answer[0] == 'notices' else None, least)
                    if answer[0] == 'notices':
                        self.assertTrue(heard.are_levels(answer[2], name, len(least)))
                    elif answer[0] == 'more':
                        self.assertTrue(heard.are_levels(answer[1], name, most + 1) and heard.let(answer[2], name))
                    else:
                        self.assertTrue(heard.are_tops(answer[1], name))
        self.assertGreater(waits, 10)

    def test_changes_ahead(self):
        machine = Machine(STILL, changes=(((0, 3), 0, 4),))
        self.assertEqual(fewest(machine, 'b', 8)[:2], ('notices', (1, 0, 1, 0, 1, 0, 1, 0)))
        machine = Machine(RING, changes=(((6, 0), 0, 0), ((7, 0), 1, 0)))
        self.assertEqual(prospects(machine), ('none', 'never'))
        kind, tops = fewest(machine, 'b', 8)
        self.assertEqual(kind, 'never')
        self.assertIn(None, [top[1] for top in tops])
        self.assertIs(shows_fewest(machine, 'b', 8, (kind, tops)), True)

    def test_nets_beside_plain_ones(self):
        kinds = {'notices': 0, 'more': 0, 'never': 0}
        lengths = {}
        for seed in range(110):
            machine, plain = net_pair(seed)
            heard = Heard(plain)
            told = prospects(machine)
            for name, prospect in zip(plain.names, told):
                if prospect == 'none':
                    self.assertIsNone(machine.next_item(name))
                    continue
                self.assertEqual(machine.may_take(name), prospect == 'goes')
                for most in (0, 2, 4) if seed % 3 else (1, 3):
                    answer = fewest(machine, name, most)
                    kinds[answer[0]] += 1
                    self.assertEqual(answer[0] == 'never', prospect == 'never')
                    self.assertIs(shows_fewest(machine, name, most, answer), True)
                    least = heard.least(name, most)
                    if answer[0] == 'notices':
                        self.assertEqual(answer[1], least)
                        self.assertTrue(heard.are_levels(answer[2], name, len(least)))
                        lengths[len(least)] = True
                        continue
                    self.assertIsNone(least)
                    if answer[0] == 'more':
                        self.assertTrue(heard.are_levels(answer[1], name, most + 1))
                        self.assertTrue(heard.let(answer[2], name) and len(answer[2]) > most)
                    else:
                        self.assertTrue(heard.are_tops(answer[1], name))
        self.assertGreater(min(kinds.values()), 20)
        self.assertEqual(sorted(lengths)[:4], [0, 1, 2, 3])

    def test_machines_that_were_led(self):
        for seed in range(60):
            machine = driven(seed, 60, kinds=ALL, busy=True)
            all_come(machine)
            before, log = machine.copy(), machine.log
            for station, prospect in zip(machine.model[1], prospects(machine)):
                if prospect != 'none':
                    answer = fewest(machine, station[0], 8)
                    self.assertIs(shows_fewest(machine, station[0], 8, answer), True)
                    self.assertEqual(answer[0] == 'never', prospect == 'never')
                    self.assertEqual(answer[:2] == ('notices', ()), prospect == 'goes')
                    self.assertEqual(machine.may_take(station[0]), prospect == 'goes')
            self.assertTrue(machine == before)
            self.assertIs(machine.log, log)

    def test_errors_in_their_sequence(self):
        machine = Machine(RING)
        for act, more in ((fewest, ()), (shows_fewest, (None,))):
            for value in any_values():
                if value not in ('a', 'b'):
                    self.assertRaisesWith(NoStation, value, act, machine, value, value, *more)
                if type(value) is not int or not 0 <= value <= 8:
                    self.assertRaisesWith(BadCount, value, act, machine, 'a', value, *more)
            self.assertRaisesWith(BadCount, 9, act, machine, 'b', 9, *more)
            self.assertRaisesNaming(NoItem, 'a', act, machine, 'a', 0, *more)
        machine.note(1)
        for act, more in ((fewest, ('a', 3)), (shows_fewest, ('a', 3, ())), (prospects, ())):
            self.assertRaisesNaming(OnWay, 1, act, machine, *more)
        machine.come(1)
        machine.picture(('b',))
        self.assertRaisesNaming(OnWay, 1, prospects, machine)
        machine.come(1)
        self.assertRaisesNaming(OnWay, 0, fewest, machine, 'b', 3)
        machine.note(1)
        self.assertRaisesNaming(OnWay, 0, fewest, machine, 'b', 3)
        inner = Machine(MODEL, roofs=(('tap', 'sink'),))
        for _ in range(2):
            inner.take('tap')
        self.assertRaisesNaming(OnWay, 0, prospects, inner)

    def test_named_arguments(self):
        machine = Machine(RING)
        answer = fewest(most=8, station='b', machine=machine)
        self.assertIs(shows_fewest(value=answer, most=8, station='b', machine=machine), True)
        self.assertEqual(prospects(machine=machine), ('none', 'notices'))


class Answers(Checks, unittest.TestCase):

    def other_levels(self, levels, dice):
        """Levels with one thing or another otherwise: in another sequence, greater or lesser, more or fewer."""
        levels = [list(level) for level in levels]
        for _ in range(dice.randint(1, 3)):
            level = dice.choice(levels) if levels else []
            kind = dice.choice(('shuffle', 'more', 'fewer', 'greater', 'greater', 'lesser', 'twice'))
            if not level:
                continue
            at = dice.randrange(len(level))
            if kind == 'shuffle':
                dice.shuffle(level)
            elif kind == 'more':
                level.append(tuple([(0, 0) for _ in level[at]]))
            elif kind == 'fewer':
                level.pop(at)
            elif kind == 'twice':
                level.append(level[at])
            elif level[at]:
                place = dice.randrange(len(level[at]))
                stamp = level[at][place]
                if stamp is not None:
                    time, turn = stamp
                    ways = [(time, turn + 1), (time + 1, 0), (time + 4, 2), None] if kind == 'greater' \
                        else [(time, max(0, turn - 1)), (max(0, time - 1), turn)]
                    level[at] = replaced(level[at], (place,), dice.choice(ways))
        return tuple([tuple(level) for level in levels])

    def test_other_levels(self):
        right = wrong = 0
        for seed in range(70):
            machine, plain = net_pair(seed)
            heard = Heard(plain)
            dice = random.Random(seed)
            for name in plain.names:
                most = dice.randint(0, 4)
                if not machine.waiting(name):
                    continue
                answer = fewest(machine, name, most)
                if answer[0] == 'never':
                    continue
                at = 2 if answer[0] == 'notices' else 1
                lines = answer[3 - at]
                for _ in range(6):
                    levels = self.other_levels(answer[at], dice)
                    expected = heard.are_levels(levels, name, len(answer[at]))
                    value = replaced(answer, (at,), levels)
                    self.assertIs(shows_fewest(machine, name, most, value), expected)
                    right += expected and levels != answer[at]
                    wrong += not expected
                for other in (lines[::-1], lines[1:], lines[:-1], (*lines, *lines[:1]), (*heard.lines[:1], *lines)):
                    let = heard.let(other, name)
                    enough = len(other) == len(answer[2]) and len(other) <= most if at == 2 else len(other) > most
                    self.assertIs(shows_fewest(machine, name, most, replaced(answer, (3 - at,), other)), let and enough)
                self.assertIs(shows_fewest(machine, name, most, replaced(answer, (3 - at,), list(lines))), False)
        self.assertGreater(right, 40)
        self.assertGreater(wrong, 40)

    def test_other_tops(self):
        right = wrong = 0
        for seed in range(130):
            machine, plain = net_pair(seed)
            heard = Heard(plain)
            dice = random.Random(seed)
            for name in plain.names:
                if not machine.waiting(name):
                    continue
                kind, tops = fewest(machine, name, 1)[:2]
                if kind != 'never' or not tops:
                    continue
                self.assertTrue(is_below(heard.first, tops))
                for _ in range(8):
                    other = list(tops)
                    for _ in range(dice.randint(1, 3)):
                        at = dice.randrange(len(other))
                        top = dice.choice(tops) or (dice.randint(0, 70), None)
                        other[at] = dice.choice((None, (top[0], None), (top[0] + dice.randint(0, 3), dice.choice((0, 5, None))),
                                                 (70, 0), tops[at]))
                    other = tuple(other)
                    expected = heard.are_tops(other, name)
                    self.assertIs(shows_fewest(machine, name, 1, ('never', other)), expected)
                    right += expected and other != tops
                    wrong += not expected
        self.assertGreater(right, 30)
        self.assertGreater(wrong, 100)

    def test_the_tops_are_the_least_ones(self):
        for seed in range(60):
            machine, plain = net_pair(seed)
            heard = Heard(plain)
            for name in plain.names:
                if not machine.waiting(name) or fewest(machine, name, 0)[0] != 'never':
                    continue
                tops = fewest(machine, name, 0)[1]
                now = heard.first
                for _ in range(40):
                    for line in heard.lines:
                        now = heard.follows(now, line)
                        self.assertTrue(is_below(now, tops))
                for stamp, top in zip(now, tops):
                    if top is not None and top[1] is not None:
                        self.assertEqual(stamp, top)
                    elif top is not None:
                        self.assertEqual(stamp[0], top[0])

    def test_one_thing_otherwise_at_any_depth(self):
        machine = Machine(RING)
        for most in (2, 8):
            answer = fewest(machine, 'b', most)
            for path in paths_of(answer):
                part = part_at(answer, path)
                for value in [*any_values(), list(part) if isinstance(part, tuple) else 7, True if part == 1 else False]:
                    if type(value) is type(part) and value == part:
                        continue
                    shown = shows_fewest(machine, 'b', most, replaced(answer, path, value))
                    self.assertIsInstance(shown, bool)
                    if value is not None and not isinstance(value, (int, tuple)) or isinstance(value, bool):
                        self.assertIs(shown, False, (path, value))

    def test_the_wrong_kind_of_answer(self):
        never, notices = fewest(Machine(STILL), 'b', 8), fewest(Machine(RING), 'b', 8)
        for kind in ('notices', 'more', 'none', 'tops', '', None, 0, ('never',)):
            self.assertIs(shows_fewest(Machine(STILL), 'b', 8, (kind, never[1])), False)
        for kind in ('more', 'never', 'none', None, True):
            self.assertIs(shows_fewest(Machine(RING), 'b', 8, (kind, *notices[1:])), False)
        for most in range(9):
            self.assertIs(shows_fewest(Machine(RING), 'b', most, notices), most >= 4)
        more = fewest(Machine(RING), 'b', 3)
        for most in range(9):
            self.assertIs(shows_fewest(Machine(RING), 'b', most, more), most == 3)
            self.assertIs(shows_fewest(Machine(RING), 'b', most, ('more', more[1], (1, 0, 1, 0))), most == 3)

    def test_any_value(self):
        for machine in (Machine(RING), Machine(STILL)):
            for value in any_values():
                for told in (value, ('never', value), ('notices', value, value), ('more', value, value),
                             ('notices', (1, 0, 1, 0), value), ('notices', (1, 0, 1, 0), (value,) * 4),
                             ('notices', (1, 0, 1, 0), ((value,),) * 4), (value, (1, 0, 1, 0), ()),
                             ('more', (value,) * 9, (0,) * 9), ('never', (value, value)), ('never', ((0, None), value))):
                    self.assertIs(shows_fewest(machine, 'b', 8, told), False, told)

    def test_lines_that_are_inner_are_none(self):
        c = ('c', (), ('f',), ('o',), (), ((),))
        model = (2, (RING[1][0], ('b', (), ('x', 'z'), ('y',), ('k',), ((), (), ())), c),
                 (*RING[2], ('c', 'o', 'b', 'z', 4)), RING[3])
        machine = Machine(model, roofs=(('a', 'b'),))
        answer = fewest(machine, 'b', 8)
        self.assertEqual(answer, ('notices', (2,), ((((0, 0),),),)))
        for lines in ((0,), (1,), (True,), (3,), (-1,), (2.0,)):
            self.assertIs(shows_fewest(machine, 'b', 8, replaced(answer, (1,), lines)), False)


if __name__ == '__main__':
    unittest.main()
