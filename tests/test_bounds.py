"""Point 11: bounds, roads that lead to them and tables below which nothing comes; guarantee (c)."""

import random
import unittest

from farasnothing.bounds import bound, shows_bound, soonest, why_bound
from farasnothing.errors import BadKnows, NoLine
from farasnothing.machine import Machine
from farasnothing.oneclock import Clock
from farasnothing.stamps import later
from tests.beside import Beside
from tests.checks import Checks
from tests.driving import ALL, WORDS, driven
from tests.plain import NEVER, told
from tests.samples import MODEL, RING, any_values, part_at, paths_of, replaced
from tests.test_rows import chain

BY = (*WORDS, 'known')


def ring(delays, alarm=9):
    """Stations in a ring, one with an alarm; by delays all pass on what comes."""
    many = len(delays)
    stations = tuple([('s' + 'abcdef'[at], (), ('x',), ('y',), ('k',) if at == 0 else (), ((),) * (1 + (at == 0)))
                      for at in range(many)])
    lines = tuple([(stations[at][0], 'y', stations[(at + 1) % many][0], 'x', delay) for at, delay in enumerate(delays)])
    return (2, stations, lines, ((alarm, 'sa', 'k', 0),))


def stamp_or_never(stamp):
    return NEVER if stamp is None else stamp


class Bounds(Checks, Beside, unittest.TestCase):

    def test_the_example(self):
        machine = Machine(RING)
        table = (((12, 0),), ((9, 0), (14, 0)))
        road = (('b', 'k', (9, 0)), ('a', 'x', (12, 0)))
        self.assertEqual([bound(machine, 0, 'delays'), why_bound(machine, 0, 'delays'), bound(machine, 0, 'programs')],
                         [(14, 0), ((14, 0), road, table), None])
        self.assertEqual([soonest(machine, 'delays'), soonest(machine, 'programs')], [table, ((None,), ((9, 0), None))])
        self.assertEqual(why_bound(machine, 1, 'programs'), (None, (), ((None,), ((9, 0), None))))

    def test_machines_beside_plain_ones(self):
        roads = 0
        for seed in range(70):
            machine, plain, _ = self.lead(seed, 20, kinds=ALL, busy=seed % 2 == 0)
            for by in BY:
                words = list(machine.knows) if by == 'known' else [by] * len(machine.model[1])
                table = plain.table(plain.names, words)
                shown = tuple([tuple([told(table[station[0], name]) for name in station[4] + station[2]])
                               for station in machine.model[1]])
                self.assertEqual(soonest(machine, by), shown)
                for line, _ in enumerate(machine.model[2]):
                    least = told(plain.bound(line, words))
                    answer = why_bound(machine, line, by)
                    self.assertEqual([bound(machine, line, by), answer[0], answer[2]], [least, least, shown])
                    self.assertIs(shows_bound(machine, line, by, answer), True)
                    roads += len(answer[1]) > 1
                    if least is None or least in plain.on_way(line):
                        self.assertEqual(answer[1], ())
                    else:
                        self.assertTrue(answer[1])
        self.assertGreater(roads, 15)

    def test_further_knowledge_lowers_no_bound(self):
        for seed in range(60):
            machine = driven(seed, 60, kinds=ALL, busy=seed % 2 == 0)
            for line, _ in enumerate(machine.model[2]):
                bounds = [stamp_or_never(bound(machine, line, by)) for by in WORDS]
                self.assertEqual(bounds, sorted(bounds))
                self.assertTrue(bounds[0] <= stamp_or_never(bound(machine, line, 'known')) <= bounds[2])

    def test_bounds_never_fall_while_more_is_heard(self):
        for seed in range(40):
            machine = driven(seed, 40, busy=True)
            for _ in range(4):
                before = [stamp_or_never(bound(machine, line, by)) for line, _ in enumerate(machine.model[2]) for by in BY]
                for line, _ in enumerate(machine.model[2]):
                    while machine.on_way(line):
                        machine.come(line)
                machine.survey()
                after = [stamp_or_never(bound(machine, line, by)) for line, _ in enumerate(machine.model[2]) for by in BY]
                self.assertTrue(all([one <= other for one, other in zip(before, after)]))

    def test_nothing_comes_below_them(self):
        letters = 0
        for seed in range(60):
            machine = driven(seed, 40, busy=True)
            clock = Clock(machine.model, changes=machine.changes)
            list(clock.run(200))
            for line, (sender, _, receiver, _, _) in enumerate(machine.model[2]):
                sent = [letter for deed in clock.deeds for letter in deed[4] if letter[0] == line]
                mine = [letter for deed in machine.deeds_of(sender) for letter in deed[4] if letter[0] == line]
                way = [one for one in machine.on_way(line) if one[0] == 'letter']
                for letter in sent[len(mine) - len(way):]:
                    letters += 1
                    for by in BY:
                        least = bound(machine, line, by)
                        self.assertTrue(least is not None and letter[2] >= least)
        self.assertGreater(letters, 50)

    def test_rings_that_are_known_by_formula(self):
        for delays in ((1,), (0,), (2, 3), (0, 0), (0, 5), (1, 2, 3), (4, 0, 0, 2), (1, 1, 1, 1, 1)):
            machine = Machine(ring(delays))
            stamp = (9, 0)
            road = [('sa', 'k', stamp)]
            for line, delay in enumerate(delays):
                stamp = later(stamp, delay)
                self.assertEqual(bound(machine, line, 'delays'), stamp)
                self.assertEqual(why_bound(machine, line, 'delays')[1], tuple(road))
                if line + 1 < len(delays):
                    road.append((machine.model[2][line][2], 'x', stamp))
            self.assertEqual(bound(machine, 0, 'programs'), None)

    def test_rows_that_are_known_by_formula(self):
        for delays in ((1, 2, 3), (0, 0, 0), (4, 0, 2), (0, 3, 0)):
            size, stations, lines, first = chain(4)
            lines = tuple([(*line[:4], delay) for line, delay in zip(lines, delays)])
            machine = Machine((size, stations, lines, first))
            for time in (0, 1, 2):
                stamp, road = (time, 0), [('sa', 'i', (time, 0))]
                for line, delay in enumerate(delays):
                    stamp = later(stamp, delay)
                    for by in BY:
                        self.assertEqual(why_bound(machine, line, by)[:2], (stamp, tuple(road)))
                    road.append(('s' + 'abcd'[line + 1], 'i', stamp))
                machine.take('sa')
                for line, name in ((0, 'sb'), (1, 'sc'), (2, 'sd')):
                    machine.come(line)
                    machine.survey()
                    machine.take(name)
            self.assertEqual([bound(machine, line, 'delays') for line in (0, 1, 2)], [None] * 3)

    def test_alarms_on_the_road(self):
        station = ('s', (), ('i',), ('o',), ('k', 'l'), ((('send', 'o', 1),), (('wait', 'k', 2),), (('wait', 'l', 3),)))
        model = (5, (station, ('u', (), ('i',), (), (), ((),))), (('s', 'o', 'u', 'i', 4),), ((1, 's', 'i', 0),))
        machine = Machine(model)
        road = (('s', 'i', (1, 0)), ('s', 'l', (4, 0)), ('s', 'k', (6, 0)))
        self.assertEqual(why_bound(machine, 0, 'programs')[:2], ((10, 0), road))
        self.assertEqual(why_bound(machine, 0, 'delays')[:2], ((5, 0), road[:1]))
        told = why_bound(machine, 0, 'programs')
        for other in ((road[0], ('s', 'k', (6, 0))), (road[0], road[2]), road[1:], road[:2], (*road, road[2])):
            self.assertIs(shows_bound(machine, 0, 'programs', (told[0], other, told[2])), False)

    def test_what_causes_what(self):
        blocks = ((('send', 'o', 1),), (('wait', 'k', 3),), (('wait', 'k', 1),), (('send', 'p', 1),))
        station = ('s', (), ('i', 'j', 'l'), ('o', 'p'), ('k',), blocks)
        other = ('u', (), ('i', 'j'), (), (), ((), ()))
        lines = (('s', 'o', 'u', 'i', 4), ('s', 'p', 'u', 'j', 2))
        machine = Machine((5, (station, other), lines, ((5, 's', 'i', 0), (6, 's', 'j', 0), (6, 's', 'l', 0))))
        table = (((7, 0), (5, 0), (6, 0), (6, 0)), ((11, 0), (8, 0)))
        road = (('s', 'j', (6, 0)), ('s', 'k', (7, 0)))
        self.assertEqual(why_bound(machine, 0, 'programs'), ((11, 0), road, table))
        self.assertEqual(why_bound(machine, 1, 'programs'), ((8, 0), (('s', 'l', (6, 0)),), table))
        for first in ('l', 'i', 'k'):
            value = ((11, 0), ((('s', first, (6, 0)), road[1])), table)
            self.assertIs(shows_bound(machine, 0, 'programs', value), False)
        for first, stamp in (('j', (6, 0)), ('i', (5, 0)), ('k', (7, 0)), ('i', (6, 0))):
            self.assertIs(shows_bound(machine, 1, 'programs', ((8, 0), (('s', first, stamp),), table)), False)

    def test_never_by_what_was_heard(self):
        machine = Machine(RING, knows='programs')
        machine.survey()
        self.assertEqual([machine.heard(0), bound(machine, 0, 'delays'), bound(machine, 1, 'delays')], [None, None, None])
        table = soonest(machine, 'delays')
        self.assertEqual([table, why_bound(machine, 0, 'delays')], [((None,), ((9, 0), None)), (None, (), table)])
        for road, shown in (((), True), ((('b', 'k', (9, 0)),), False)):
            self.assertIs(shows_bound(machine, 1, 'delays', (None, road, table)), shown)

    def test_words_of_each_station(self):
        machine = Machine(RING, knows=('delays', 'states'))
        self.assertEqual([bound(machine, 0, 'known'), bound(machine, 1, 'known')], [None, None])
        self.assertEqual([bound(machine, 0, 'delays'), bound(machine, 1, 'delays')], [(14, 0), (12, 0)])
        machine = Machine(RING, knows=('states', 'delays'))
        self.assertEqual([bound(machine, 0, 'known'), bound(machine, 1, 'known')], [None, (12, 0)])

    def test_what_was_heard_and_what_is_on_the_way(self):
        machine = Machine(MODEL)
        for _ in range(2):
            machine.take('tap')
        self.assertEqual(why_bound(machine, 0, 'delays'), ((6, 0), (), (((3, 0), None), ((6, 0),))))
        for road, shown in (((), True), ((('tap', 'bell', (3, 0)),), False), ((('sink', 'b', (6, 0)),), False)):
            value = ((6, 0), road, (((3, 0), None), ((6, 0),)))
            self.assertIs(shows_bound(machine, 0, 'delays', value), shown)
        machine.come(0)
        self.assertEqual(why_bound(machine, 0, 'delays')[:2], ((7, 0), (('tap', 'bell', (3, 0)),)))
        machine = Machine(MODEL, changes=(((3, 0), 0, 3),))
        for _ in range(2):
            machine.take('tap')
        road = (('tap', 'bell', (3, 0)),)
        self.assertEqual(why_bound(machine, 0, 'delays')[:2], ((6, 0), ()))
        for told in ((), road):
            self.assertIs(shows_bound(machine, 0, 'delays', ((6, 0), told, soonest(machine, 'delays'))), True)
        late = Machine(RING)
        late.survey()
        late.learn('a', 'programs')
        self.assertEqual([bound(late, 0, 'known'), bound(late, 1, 'known')], [None, (12, 0)])

    def test_roads_below_what_was_heard(self):
        sender = ('a', (), ('i',), ('o',), ('k',), ((('send', 'o', 1),), (('wait', 'k', 3),)))
        model = (5, (sender, ('b', (), ('i',), (), (), ((),))), (('a', 'o', 'b', 'i', 1),),
                 ((2, 'a', 'i', 0), (4, 'a', 'i', 0), (6, 'a', 'i', 0)))
        machine = Machine(model, knows='programs')
        machine.note(0)
        machine.come(0)
        self.assertEqual([machine.heard(0), bound(machine, 0, 'delays')], [(6, 0), (6, 0)])
        table = (((2, 1), (2, 0)), ((6, 0),))
        self.assertEqual(why_bound(machine, 0, 'delays'), ((6, 0), (('a', 'i', (2, 0)),), table))
        for road, shown in (((('a', 'i', (4, 0)),), True), ((('a', 'i', (6, 0)),), False), ((('a', 'i', (3, 0)),), False),
                            ((('a', 'i', (4, 0)), ('a', 'k', (4, 1))), True), ((('a', 'k', (2, 1)),), False),
                            ((('a', 'i', (4, 0)), ('a', 'k', (4, 2))), False), ((), False)):
            for stamps, right in ((((2, 1), (2, 0)), True), (((0, 0), (0, 0)), True), (((2, 1), (2, 1)), False),
                                  (((2, 2), (2, 0)), False)):
                value = ((6, 0), road, (stamps, ((6, 0),)))
                self.assertIs(shows_bound(machine, 0, 'delays', value), shown and right, (road, stamps))
        for end, right in (((6, 1), False), ((5, 9), True), (None, False)):
            value = ((6, 0), (('a', 'i', (2, 0)),), (table[0], (end,)))
            self.assertIs(shows_bound(machine, 0, 'delays', value), right)

    def test_nothing_is_changed(self):
        machine = driven(3, 40, kinds=ALL, busy=True)
        before, log = machine.copy(), machine.log
        for line, _ in enumerate(machine.model[2]):
            shows_bound(machine, line, 'known', why_bound(machine, line, 'known'))
        self.assertTrue(machine == before)
        self.assertIs(machine.log, log)


class Shown(Checks, Beside, unittest.TestCase):

    def lowered(self, plain, table, words, dice):
        """A lower table that keeps (i) to (iii): some stamps are lowered, and what follows from them too."""
        table = {key: stamp_or_never(stamp) for key, stamp in table.items()}
        full = plain.table(plain.names, words)
        for key in table:
            if dice.random() < 0.3:
                time = dice.randint(0, 30)
                table[key] = min(table[key], (time, dice.randint(0, 2)))
        before = None
        while before != table:
            before = dict(table)
            for name in plain.names:
                for handler, (outs, waits) in plain.can(name, words[plain.names.index(name)]).items():
                    stamp = table[name, handler]
                    for alarm, worth in waits:
                        after = NEVER if stamp == NEVER else later(stamp, worth)
                        table[name, alarm] = min(table[name, alarm], after)
                    for line, (sender, out, receiver, port, _) in enumerate(plain.ends):
                        if sender == name and out in outs:
                            heard = plain.now[receiver].heard[line]
                            table[receiver, port] = min(table[receiver, port], max(heard, plain.arrival(line, stamp)))
        self.assertTrue(all([table[key] <= full[key] for key in table]))
        return table

    def test_lower_tables(self):
        right = wrong = 0
        for seed in range(50):
            machine, plain, _ = self.lead(seed, 15, kinds=ALL, busy=True)
            dice = random.Random(seed)
            by = dice.choice(BY)
            words = list(machine.knows) if by == 'known' else [by] * len(plain.names)
            full = plain.table(plain.names, words)
            for line, _ in enumerate(machine.model[2]):
                least, road, shown = why_bound(machine, line, by)
                table = self.lowered(plain, full, words, dice)
                value = tuple([tuple([told(table[name, handler]) for handler in plain.whole(name)[4] + plain.whole(name)[2]])
                               for name in plain.names])
                heard = plain.now[plain.ends[line][2]].heard[line]
                comes = min([max(heard, plain.arrives(line, table, words)), *plain.on_way(line)])
                expected = comes == stamp_or_never(least)
                self.assertIs(shows_bound(machine, line, by, (least, road, value)), expected)
                right += expected and value != shown
                wrong += not expected
                place = dice.randrange(len(shown))
                for rank, stamp in enumerate(shown[place]):
                    higher = None if stamp is None else (stamp[0], stamp[1] + 1)
                    if stamp is not None:
                        value = replaced(shown, (place, rank), higher)
                        self.assertIs(shows_bound(machine, line, by, (least, road, value)), False)
        self.assertGreater(right, 20)
        self.assertGreater(wrong, 10)

    def other_roads(self, plain, line, words, least):
        """All roads from any items from which the bound follows, no handler twice; None of a letter on the way."""
        starts = []
        for name in plain.names:
            for stamp, _, _, handler, _, _ in plain.items(name):
                starts.append((name, handler, stamp))
        for number, (_, _, receiver, port, _) in enumerate(plain.ends):
            starts += [(receiver, port, stamp) for stamp in plain.on_way(number)]
        roads = [(start,) for start in set(starts)]
        for road in roads:
            name, handler, stamp = road[-1]
            outs, waits = plain.can(name, words[plain.names.index(name)])[handler]
            further = [(name, alarm, later(stamp, worth)) for alarm, worth in waits]
            for number, (sender, out, receiver, port, _) in enumerate(plain.ends):
                if sender == name and out in outs:
                    comes = plain.arrival(number, stamp)
                    heard = plain.now[receiver].heard[number]
                    if number == line and max(heard, comes) == least and road not in self.found:
                        self.found.append(road)
                    further.append((receiver, port, max(heard, comes)))
            for stop in further:
                if stop[2] != NEVER and stop[:2] not in [one[:2] for one in road] and len(roads) < 4000:
                    roads.append((*road, stop))
        return self.found

    def test_all_roads(self):
        other = many = 0
        for seed in range(40):
            machine, plain, _ = self.lead(seed, 12, kinds=ALL, busy=True)
            dice = random.Random(seed)
            by = dice.choice(BY)
            words = list(machine.knows) if by == 'known' else [by] * len(plain.names)
            for line, _ in enumerate(machine.model[2]):
                least, road, table = why_bound(machine, line, by)
                if least is None:
                    continue
                self.found = []
                found = self.other_roads(plain, line, words, least)
                many += len(found)
                if road:
                    self.assertIn(road, found)
                for one in found[:30]:
                    self.assertIs(shows_bound(machine, line, by, (least, one, table)), True)
                    other += one != road
                    at = dice.randrange(len(one))
                    name, handler, (time, turn) = one[at]
                    for stop in ((name, handler, (time, turn + 1)), (name, handler, (time + 1, turn)),
                                 (name, handler), (name, None, (time, turn)), (handler, name, (time, turn)),
                                 (name, handler, None), [name, handler, (time, turn)]):
                        changed = replaced(one, (at,), stop)
                        if changed not in found:
                            self.assertIs(shows_bound(machine, line, by, (least, changed, table)), False, changed)
                    cut = one[:at] + one[at + 1:]
                    self.assertIs(shows_bound(machine, line, by, (least, cut, table)),
                                  cut in found or cut == () and road == ())
        self.assertGreater(other, 30)
        self.assertGreater(many, 100)

    def test_one_thing_otherwise_at_any_depth(self):
        machine = Machine(RING, roofs=(('a', 'b'),))
        answer = why_bound(machine, 0, 'delays')
        for path in paths_of(answer):
            part = part_at(answer, path)
            for value in [*any_values(), list(part) if isinstance(part, tuple) else None, 1.0 if part == 1 else 8]:
                if type(value) is type(part) and value == part:
                    continue
                shown = shows_bound(machine, 0, 'delays', replaced(answer, path, value))
                self.assertIs(shown, False, (path, value))
        for value in any_values():
            self.assertIs(shows_bound(machine, 0, 'delays', value), False)
            for by in BY:
                self.assertIs(shows_bound(machine, 1, by, (None, value, value)), False)

    def test_lower_stamps_that_make_no_difference(self):
        machine = Machine(RING)
        machine.survey()
        least, road, table = why_bound(machine, 1, 'delays')
        self.assertEqual([least, road, table], [(12, 0), (('b', 'k', (9, 0)),), (((12, 0),), ((9, 0), (14, 0)))])
        for value, shown in (((((12, 0),), ((9, 0), (9, 0))), True), ((((12, 0),), ((9, 0), (8, 9))), False),
                             ((((11, 9),), ((9, 0), (14, 0))), True), ((((1, 0),), ((9, 0), (14, 0))), True),
                             ((((12, 1),), ((9, 0), (14, 0))), False), ((((12, 0),), ((9, 0), (14, 1))), False)):
            self.assertIs(shows_bound(machine, 1, 'delays', (least, road, value)), shown, value)

    def test_never(self):
        machine = Machine(RING)
        table = ((None,), ((9, 0), None))
        self.assertIs(shows_bound(machine, 0, 'programs', (None, (), table)), True)
        self.assertIs(shows_bound(machine, 0, 'programs', (None, (('b', 'k', (9, 0)),), table)), False)
        self.assertIs(shows_bound(machine, 0, 'programs', (None, (), (((1, 0),), ((9, 0), None)))), True)
        self.assertIs(shows_bound(machine, 0, 'delays', (None, (), soonest(machine, 'delays'))), False)

    def test_arguments(self):
        machine = Machine(MODEL)
        self.assertEqual(soonest(by='known', machine=machine), soonest(machine, 'delays'))
        self.assertEqual(bound(by='delays', line=0, machine=machine), (4, 0))
        answer = why_bound(line=0, by='delays', machine=machine)
        self.assertIs(shows_bound(value=answer, by='delays', line=0, machine=machine), True)
        for value in any_values():
            if value != 'delays':
                self.assertRaisesWith(BadKnows, value, soonest, machine, value)
                for act, more in ((bound, ()), (why_bound, ()), (shows_bound, (value,))):
                    self.assertRaisesWith(BadKnows, value, act, machine, 0, value, *more)
            if type(value) is not int or value != 0:
                for act, more in ((bound, ()), (why_bound, ()), (shows_bound, (value,))):
                    self.assertRaisesWith(NoLine, value, act, machine, value, value, *more)


if __name__ == '__main__':
    unittest.main()
