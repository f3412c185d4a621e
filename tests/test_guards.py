"""Point 16: which lines to write so that stations stay if others fall."""

import itertools
import random
import unittest

from farasnothing.errors import BadPrices, NoStation
from farasnothing.guards import guarded, shows_guarded
from farasnothing.machine import Machine
from tests.beside import Beside
from tests.checks import Checks
from tests.driving import some_of
from tests.samples import MODEL, any_values, part_at, paths_of, replaced
from tests.test_rows import chain

KINDS = ['take'] * 12 + ['come'] * 14 + ['mark'] * 5 + ['survey'] * 4 + ['fall']


def far(lines=(0, 1)):
    """A machine of a chain of three: all was taken, and all came; no marks but the first ones."""
    machine = Machine(chain(), unwritten=lines)
    for _ in range(3):
        machine.take('sa')
        machine.come(0)
        machine.take('sb')
        machine.come(1)
    return machine


def stays(plain, stations, safe, lines):
    """Whether the safe stations stay if others fall and these lines too are written: by trying all rows."""
    unwritten, plain.unwritten = plain.unwritten, [line for line in plain.unwritten if line not in lines]
    choices = {name: plain.marks[name] + ([] if name in stations else [None])
               for name in plain.names}
    row = plain.greatest(plain.rows(choices, plain.apart))
    plain.unwritten = unwritten
    return all([mark is None for name, mark in zip(plain.names, row) if name in safe])


def some_pulls(plain, stations, safe, longest):
    """All pulls with at most so many steps."""
    pulls, found = [], []
    for name in stations:
        mark = max(plain.marks[name], key=lambda mark: len(mark.deeds))
        pulls.append((((name, len(mark.deeds), None),), mark))
    for steps, mark in pulls:
        if steps[-1][0] in safe:
            found.append(steps)
        for line in plain.unwritten:
            sender, _, receiver, _, _ = plain.ends[line]
            if receiver != steps[-1][0] or not plain.lacks(line, mark) or len(steps) == longest:
                continue
            came = len(mark.came[line])
            if plain.now[sender].sent[line] > came:
                back = max([one for one in plain.marks[sender] if one.sent[line] <= came],
                           key=lambda one: len(one.deeds))
                pulls.append(((*steps, (sender, len(back.deeds), line)), back))
    return found


class Guards(Checks, Beside, unittest.TestCase):

    def test_a_chain(self):
        machine = far()
        pull = (('sc', 0, None), ('sb', 0, 1), ('sa', 0, 0))
        self.assertEqual(guarded(machine, ('sc',), ('sa',), (1, 1)), ('lines', 1, (0,), (pull,)))
        self.assertEqual(guarded(machine, ('sc',), ('sa',), (3, 2)), ('lines', 2, (1,), (pull,)))
        self.assertEqual(guarded(machine, ('sc',), ('sa', 'sb'), (3, 2)), ('lines', 2, (1,), (pull[:2],)))
        self.assertEqual(guarded(machine, ('sc', 'sb'), ('sa',), (3, 2)),
                         ('lines', 3, (0,), ((('sb', 0, None), ('sa', 0, 0)),)))
        self.assertEqual(guarded(machine, ('sa',), ('sb', 'sc'), (9, 9)), ('lines', 0, (), ()))
        self.assertEqual(guarded(machine, ('sc',), (), (9, 9)), ('lines', 0, (), ()))

    def test_written_lines_are_free(self):
        machine = far((1,))
        self.assertEqual(guarded(machine, ('sc',), ('sa',), (1, 1)), ('lines', 0, (), ()))
        self.assertEqual(guarded(machine, ('sc',), ('sb',), (1, 7)),
                         ('lines', 7, (1,), ((('sc', 0, None), ('sb', 0, 1)),)))
        for lines in ((0, 1), (0,)):
            value = ('lines', 7, lines, ((('sc', 0, None), ('sb', 0, 1)),))
            self.assertIs(shows_guarded(machine, ('sc',), ('sb',), (1, 7), value), False)

    def test_a_station_in_both(self):
        machine = far()
        for stations, safe, first in ((('sc', 'sb'), ('sc', 'sb'), 'sb'), (('sc',), ('sa', 'sc'), 'sc'),
                                      (('sa', 'sb', 'sc'), ('sb',), 'sb')):
            self.assertEqual(guarded(machine, stations, safe, (1, 1)), ('never', first))
            for value, shown in ((('never', first), True), (('never', 'sa'), False), (('never',), False),
                                 (['never', first], False), (('never', first, ()), False), (('lines', 0, (), ()), False),
                                 (('lines', 2, (0, 1), ()), False)):
                self.assertIs(shows_guarded(machine, stations, safe, (1, 1), value), shown)
        self.assertIs(shows_guarded(machine, ('sc',), ('sa',), (1, 1), ('never', 'sc')), False)

    def test_machines_beside_plain_ones(self):
        dear = others = 0
        for seed in range(80):
            machine, plain, _ = self.lead(seed, 60, kinds=KINDS, busy=True, changes=False)
            dice = random.Random(seed)
            for name in plain.names:
                stations = dice.choice(((name,), (name,), some_of(plain.names, dice)))
                rest = [other for other in plain.names if other not in stations]
                safe = tuple(dice.sample(rest, dice.randint(min(1, len(rest)), len(rest))))
                prices = tuple([dice.choice((1, 1, 2, 3, 9)) for _ in machine.model[2]])
                costs, more = self.compare(machine, plain, stations, safe, prices, dice)
                dear += costs
                others += more
        self.assertGreater(dear, 12)
        self.assertGreater(others, 0)

    def compare(self, machine, plain, stations, safe, prices, dice):
        """Compares what guarded tells with all that can be; whether it costs, and how many other lines do as well."""
        answer = guarded(machine, stations, safe, prices)
        self.assertIs(shows_guarded(machine, stations, safe, prices, answer), True)
        choices = [lines for many in range(len(machine.unwritten) + 1)
                   for lines in itertools.combinations(machine.unwritten, many)]
        cost = {lines: sum([prices[line] for line in lines]) for lines in choices}
        right = [lines for lines in choices if stays(plain, stations, safe, lines)]
        least = min([cost[lines] for lines in right])
        self.assertEqual(answer[1], least)
        self.assertIn(answer[2], right)
        pulls = some_pulls(plain, stations, safe, 6)
        self.assertTrue(all([pull in pulls or len(pull) > 6 for pull in answer[3]]))
        others = 0
        for lines in choices:
            shown = shows_guarded(machine, stations, safe, prices, (*answer[:2], lines, answer[3]))
            self.assertIs(shown, lines in right and cost[lines] == least)
            others += shown and lines != answer[2]
        for _ in range(4):
            told = tuple(dice.sample(pulls, min(len(pulls), dice.randint(0, 4))))
            ask = all([any([not set([step[2] for step in pull]) & set(lines) for pull in told])
                       for lines in choices if cost[lines] < least])
            self.assertIs(shows_guarded(machine, stations, safe, prices, (*answer[:3], told)), ask)
        again = (*answer[:3], answer[3][::-1] * 2)
        self.assertIs(shows_guarded(machine, stations, safe, prices, again), True)
        return least > 0, others

    def test_several_pulls(self):
        stations = (('sa', (), ('f',), ('o', 'p'), (), ((('send', 'o', 1), ('send', 'p', 1)),)),
                    ('sb', (), ('i',), ('o',), (), ((('send', 'o', 1),),)), ('sc', (), ('i', 'j'), (), (), ((), ())))
        lines = (('sa', 'o', 'sb', 'i', 1), ('sa', 'p', 'sc', 'i', 5), ('sb', 'o', 'sc', 'j', 1))
        machine = Machine((2, stations, lines, ((0, 'sa', 'f', 0),)), unwritten=(0, 1, 2))
        machine.take('sa')
        machine.come(0)
        machine.come(1)
        machine.take('sb')
        machine.come(2)
        short = (('sc', 0, None), ('sa', 0, 1))
        long = (('sc', 0, None), ('sb', 0, 2), ('sa', 0, 0))
        answer = guarded(machine, ('sc',), ('sa',), (2, 3, 4))
        self.assertEqual(answer[:3], ('lines', 5, (0, 1)))
        self.assertEqual(sorted(answer[3]), sorted([short, long]))
        for pulls, shown in (((short, long), True), ((long, short), True), ((short,), False), ((long,), False),
                             ((), False), ((short, long, short), True), ([short, long], False),
                             ((short, list(long)), False), ((short, long[:2]), False), ((short, long[1:]), False),
                             ((short, (long[0], *long)), False), ((short, ()), False), ((short, long, None), False)):
            self.assertIs(shows_guarded(machine, ('sc',), ('sa',), (2, 3, 4), ('lines', 5, (0, 1), pulls)), shown)
        for lines, price, shown in (((1, 0), 5, False), ((0, 1), 6, False), ((0, 1, 1), 8, False), ((1, 2), 7, False),
                                    ((0, 1), True, False), ((0, True), 5, False), ([0, 1], 5, False), ((0, 3), 5, False)):
            value = ('lines', price, lines, (short, long))
            self.assertIs(shows_guarded(machine, ('sc',), ('sa',), (2, 3, 4), value), shown)
        both = guarded(machine, ('sc',), ('sb', 'sa'), (2, 3, 4))
        self.assertEqual(both[:3], ('lines', 7, (1, 2)))

    def test_lines_of_the_same_price(self):
        machine = far()
        pull = (('sc', 0, None), ('sb', 0, 1), ('sa', 0, 0))
        for lines, shown in (((0,), True), ((1,), True), ((0, 1), False), ((), False)):
            value = ('lines', 4, lines, (pull,))
            self.assertIs(shows_guarded(machine, ('sc',), ('sa',), (4, 4), value), shown)

    def test_a_line_from_a_station_to_itself(self):
        station = ('s', (), ('i', 'j'), ('o', 'p'), (), ((('send', 'o', 1),), ()))
        other = ('t', (), ('i',), ('o',), (), ((),))
        sender = ('r', (), ('f',), ('o',), (), ((('send', 'o', 1),),))
        lines = (('r', 'o', 's', 'i', 1), ('s', 'o', 's', 'j', 5), ('s', 'p', 't', 'i', 1))
        machine = Machine((2, (station, other, sender), lines, ((0, 'r', 'f', 0), (1, 'r', 'f', 0))), unwritten=(0, 1, 2))
        machine.take('r')
        machine.mark('r')
        machine.come(0)
        machine.survey()
        machine.take('s')
        machine.mark('s')
        machine.come(1)
        step = ('s', 1, None)
        self.assertEqual(guarded(machine, ('s',), ('r',), (1, 1, 1)), ('lines', 1, (0,), ((step, ('s', 0, 1), ('r', 0, 0)),)))
        for pull, shown in (((step, ('s', 0, 1), ('r', 0, 0)), True), ((step, ('r', 0, 0)), False),
                            ((step, ('s', 0, 1), ('s', 0, 1), ('r', 0, 0)), True)):
            self.assertIs(shows_guarded(machine, ('s',), ('r',), (1, 1, 1), ('lines', 1, (1,), (pull,))), shown)

    def test_one_thing_otherwise_at_any_depth(self):
        machine = far()
        answer = guarded(machine, ('sc',), ('sa',), (2, 1))
        self.assertEqual(answer, ('lines', 1, (1,), ((('sc', 0, None), ('sb', 0, 1), ('sa', 0, 0)),)))
        for path in paths_of(answer):
            part = part_at(answer, path)
            for value in [*any_values(), list(part) if isinstance(part, tuple) else 2]:
                if type(value) is not type(part) or value != part:
                    shown = shows_guarded(machine, ('sc',), ('sa',), (2, 1), replaced(answer, path, value))
                    self.assertIs(shown, False, (path, value))

    def test_nothing_is_changed(self):
        machine = far()
        before = machine.copy()
        shows_guarded(machine, ('sc',), ('sa',), (2, 1), guarded(machine, ('sc',), ('sa',), (2, 1)))
        self.assertEqual([machine, machine.log], [before, before.log])

    def test_wrong_arguments(self):
        machine = Machine(MODEL)
        for act, more in ((guarded, ()), (shows_guarded, (None,))):
            for value in any_values():
                if not isinstance(value, tuple) or not value or value == ('tap', 'tap'):
                    self.assertRaisesWith(NoStation, value, act, machine, value, value, value, *more)
                    if value != ():
                        self.assertRaisesWith(NoStation, value, act, machine, ('tap',), value, value, *more)
                elif value != ('tap',):
                    self.assertRaisesWith(NoStation, value[0], act, machine, value, value, value, *more)
                    self.assertRaisesWith(NoStation, value[0], act, machine, ('tap',), value, value, *more)
                for safe in ((), ('tap',), ('sink',)):
                    if not isinstance(value, tuple) or value != (1,):
                        self.assertRaisesWith(BadPrices, value, act, machine, ('tap',), safe, value, *more)
                if type(value) is not int or not 0 < value < 10:
                    prices = (value,)
                    self.assertRaisesWith(BadPrices, prices, act, machine, ('tap',), (), prices, *more)
            for prices in ((1, 1), (10,), (0,), [1]):
                self.assertRaisesWith(BadPrices, prices, act, machine, ('tap',), (), prices, *more)
        told = guarded(prices=(9,), safe=(), stations=('tap',), machine=machine)
        self.assertEqual(told, ('lines', 0, (), ()))
        self.assertIs(shows_guarded(value=told, prices=(9,), safe=(), stations=('tap',), machine=machine), True)


if __name__ == '__main__':
    unittest.main()
