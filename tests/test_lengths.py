"""Point 14: the cheapest longer delays."""

import random
import unittest

from farasnothing.errors import BadPrices, BadTime, Behind, HasChanges, NoStation
from farasnothing.flows import shows_cheapest
from farasnothing.lengths import cheapest
from farasnothing.machine import Machine
from tests.chained import (chain_machine, chains_to, is_right_flow, least_price, on_way_early, time_of)
from tests.checks import Checks
from tests.samples import MODEL, RING, any_values


def behind():
    """A machine with a station that is behind."""
    machine = Machine(MODEL)
    machine.take('tap')
    machine.fall(('tap',))
    return machine


def any_receiver(machine, dice):
    """A station, mostly one at which a line ends."""
    return dice.choice([station[0] for station in machine.model[1][:1]] + [line[2] for line in machine.model[2]])


class Lengths(Checks, unittest.TestCase):

    def test_a_ring(self):
        machine = Machine(RING)
        for time, prices, answer in ((11, (1, 1), ('adds', 0, (0, 0), ())),
                                     (14, (1, 1), ('adds', 2, (0, 2), (((1,), 1),))),
                                     (14, (1, None), ('never', (1,))),
                                     (100, (None, 9), ('adds', 9 * 88, (0, 88), (((1,), 9),)))):
            self.assertEqual(cheapest(machine, 'a', time, prices)[:2], answer[:2])
            self.assertEqual(cheapest(machine, 'a', time, prices), answer)
        self.assertEqual(cheapest(machine, 'b', 20, (2, 3)), ('adds', 12, (6, 0), (((1, 0), 2),)))
        self.assertEqual(cheapest(machine, 'b', 20, (3, 2)), ('adds', 12, (0, 6), (((1, 0), 2),)))
        self.assertEqual(cheapest(machine, 'b', 20, (None, 2))[:3], ('adds', 12, (0, 6)))
        self.assertEqual(cheapest(machine, 'b', 20, (None, None)), ('never', (1, 0)))
        self.assertEqual(cheapest(machine, 'b', 14, (None, None)), ('adds', 0, (0, 0), ()))

    def test_time_0_and_nothing_that_comes(self):
        self.assertEqual(cheapest(Machine(RING), 'b', 0, (None, 1)), ('adds', 0, (0, 0), ()))
        quiet = (RING[0], RING[1], RING[2], ())
        self.assertEqual(cheapest(Machine(quiet), 'b', 100, (None, 1)), ('adds', 0, (0, 0), ()))
        apart = (RING[0], RING[1], (), RING[3])
        self.assertEqual(cheapest(Machine(apart), 'b', 100, ()), ('adds', 0, (), ()))

    def test_what_waits_at_the_station_itself(self):
        """The alarm of b at 9 is no letter; but it may send, and the letter may come round."""
        machine = Machine((RING[0], RING[1], RING[2][:1], RING[3]))
        self.assertEqual(cheapest(machine, 'b', 100, (1,)), ('adds', 0, (0,), ()))
        itself = (2, (('s', (), ('i',), ('o',), ('k',), ((), ())),), (('s', 'o', 's', 'i', 0),), ((4, 's', 'k', 0),))
        self.assertEqual(cheapest(Machine(itself), 's', 7, (5,)), ('adds', 15, (3,), (((0,), 5),)))
        self.assertEqual(cheapest(Machine(itself), 's', 4, (5,)), ('adds', 0, (0,), ()))
        self.assertEqual(cheapest(Machine(itself), 's', 5, (None,)), ('never', (0,)))

    def test_a_letter_on_the_way(self):
        machine = Machine(MODEL)
        machine.take('tap')
        machine.take('tap')
        self.assertEqual(machine.on_way(0), (('letter', (6, 0), 4),))
        for prices in ((1,), (None,)):
            self.assertEqual(cheapest(machine, 'sink', 7, prices), ('never', ()))
        self.assertEqual(cheapest(machine, 'sink', 6, (None,)), ('adds', 0, (0,), ()))
        answer = cheapest(machine, 'sink', 8, (None,))
        self.assertIn(answer, (('never', ()), ('never', (0,))))
        for chain in ((), (0,)):
            self.assertIs(shows_cheapest(machine, 'sink', 8, (None,), ('never', chain)), True)
        machine.come(0)
        self.assertEqual(cheapest(machine, 'sink', 7, (1,)), ('adds', 0, (0,), ()))
        self.assertEqual(cheapest(machine, 'sink', 9, (1,))[:3], ('adds', 2, (2,)))
        self.assertEqual(cheapest(machine, 'tap', 9, (1,)), ('adds', 0, (0,), ()))

    def test_turns_do_not_count(self):
        """A letter at (5, 1) is not below the time 5."""
        station = ('s', (), ('i', 'j'), ('o',), (), ((('send', 'o', 1),), ()))
        machine = Machine((2, (station,), (('s', 'o', 's', 'j', 0),), ((5, 's', 'i', 0),)))
        machine.take('s')
        self.assertEqual(machine.on_way(0), (('letter', (5, 1), 1),))
        self.assertEqual(cheapest(machine, 's', 5, (None,)), ('adds', 0, (0,), ()))
        self.assertEqual(cheapest(machine, 's', 6, (None,)), ('never', ()))

    def test_a_notice_is_no_letter(self):
        machine = Machine((RING[0], RING[1], RING[2], ()))
        machine.note(0)
        machine.note(1)
        self.assertEqual(cheapest(machine, 'b', 100, (1, 1)), ('adds', 0, (0, 0), ()))

    def test_two_ways(self):
        stations = [('a', (), (), ('o', 'p'), ('k',), ((),)), ('b', (), ('i',), ('o',), (), ((),)),
                    ('c', (), ('i', 'j'), (), (), ((), ()))]
        lines = (('a', 'o', 'b', 'i', 1), ('b', 'o', 'c', 'i', 1), ('a', 'p', 'c', 'j', 5))
        machine = Machine((2, tuple(stations), lines, ((0, 'a', 'k', 0),)))
        answer = cheapest(machine, 'c', 30, (2, 3, 4))
        self.assertEqual(answer[:3], ('adds', 2 * 28 + 4 * 25, (28, 0, 25)))
        self.assertEqual(sorted(answer[3]), [((0, 1), 2), ((2,), 4)])

    def test_against_an_own_search(self):
        kinds = {'adds': 0, 'never': 0, 'letter': 0, 'dear': 0}
        for seed in range(400):
            machine = chain_machine(seed, most=4, lines=4, delays=(0, 1, 2, 3), latest=5)
            dice = random.Random(seed)
            name = any_receiver(machine, dice)
            prices = tuple([dice.choice((None, 1, 1, 2, 3, 9)) for _ in machine.model[2]])
            time = dice.randint(0, 8)
            before, log = machine.copy(), machine.log
            answer = cheapest(machine, name, time, prices)
            self.assertEqual([machine, machine.log], [before, log])
            self.assertIs(shows_cheapest(machine, name, time, prices, answer), True)
            best = least_price(machine, name, time, prices)
            self.assertEqual(answer[1] if answer[0] == 'adds' else None, best, seed)
            kinds[answer[0]] += 1
            kinds['letter'] += on_way_early(machine, name, time)
            kinds['dear'] += bool(best)
        self.assertGreater(min(kinds.values()), 15, kinds)

    def test_great_models(self):
        far = several = 0
        for seed in range(1000, 2500):
            machine = chain_machine(seed)
            dice = random.Random(seed)
            name = any_receiver(machine, dice)
            prices = tuple([dice.choice((None, 1, 2, 5, 9, 9)) for _ in machine.model[2]])
            time = dice.choice((3, 10, 30, 100))
            answer = cheapest(machine, name, time, prices)
            self.assertIs(shows_cheapest(machine, name, time, prices, answer), True)
            if answer[0] == 'never':
                self.assertNever(machine, name, time, prices, answer[1])
                continue
            _, price, adds, flow = answer
            self.assertFalse(on_way_early(machine, name, time))
            for chain in chains_to(machine, name, range(len(prices))):
                self.assertGreaterEqual(time_of(machine, chain, adds), time)
            self.assertEqual(sum([one * add for one, add in zip(prices, adds) if one]), price)
            self.assertTrue(all([add >= 0 and (one or add == 0) for one, add in zip(prices, adds)]))
            self.assertTrue(is_right_flow(machine, name, time, prices, flow, price))
            far += any([line[4] + add > 20 for line, add in zip(machine.model[2], adds)])
            several += len(flow) > 1
        self.assertGreater(far, 20)
        self.assertGreater(several, 20)

    def assertNever(self, machine, name, time, prices, chain):
        """The reason is right: a letter that is too early, or a chain that is and cannot grow."""
        if chain == ():
            self.assertTrue(on_way_early(machine, name, time))
        else:
            fixed = [line for line, price in enumerate(prices) if price is None]
            self.assertIn(chain, chains_to(machine, name, fixed))
            self.assertLess(time_of(machine, chain), time)

    def test_longer_delays_keep_letters_away(self):
        """With the adds nothing comes below the time, whatever is sent."""
        for seed in range(2600, 2700):
            machine = chain_machine(seed, delays=(0, 1, 3))
            name = machine.model[1][0][0]
            answer = cheapest(machine, name, 15, (1,) * len(machine.model[2]))
            if answer[0] == 'never' or machine.log:
                continue
            size, stations, lines, first = machine.model
            grown = tuple([(*line[:4], line[4] + add) for line, add in zip(lines, answer[2])])
            if max([0, *[line[4] for line in grown]]) > 20:
                continue
            loud = tuple([(*one[:5], (tuple([('send', out, 1) for out in one[3]]),) * 4) for one in stations])
            other = Machine((size, loud, grown, first))
            for _ in range(40):
                takers = [one[0] for one in loud if other.may_take(one[0])]
                if not takers:
                    other.survey()
                for taker in takers:
                    other.take(taker)
                for line, end in enumerate(lines):
                    while other.on_way(line):
                        told = other.come(line)
                        self.assertTrue(end[2] != name or told[1][0] >= 15)

    def test_errors_in_their_sequence(self):
        for machine, last in ((Machine(RING), None), (Machine(RING, changes=(((50, 0), 1, 3),)), HasChanges)):
            before = machine.copy()
            for act, more in ((cheapest, ()), (shows_cheapest, (None,))):
                for value in any_values():
                    if value not in ('a', 'b'):
                        self.assertRaisesWith(NoStation, value, act, machine, value, value, value, *more)
                    if type(value) is not int or value < 0:
                        self.assertRaisesWith(BadTime, value, act, machine, 'a', value, value, *more)
                    if value not in ((1, 2), (None, None)):
                        self.assertRaisesWith(BadPrices, value, act, machine, 'a', 10, value, *more)
                    if value is not None and (type(value) is not int or not 0 < value < 10):
                        for prices in ((value, 1), (None, value)):
                            self.assertRaisesWith(BadPrices, prices, act, machine, 'a', 10, prices, *more)
                for prices in ((1,), (1, 2, 3), (0, 1), (1, 10), [1, 1]):
                    self.assertRaisesWith(BadPrices, prices, act, machine, 'a', 10, prices, *more)
                if last is not None:
                    with self.assertRaises(last) as caught:
                        act(machine, 'a', 10, (1, 1), *more)
                    self.assertIs(type(caught.exception), last)
            self.assertEqual([machine, machine.log], [before, ()])

    def test_behind_comes_last(self):
        machine = behind()
        for act, more in ((cheapest, ()), (shows_cheapest, (None,))):
            self.assertRaisesNaming(Behind, 'tap', act, machine, 'sink', 10, (1,), *more)
            self.assertRaisesWith(BadPrices, 1, act, machine, 'sink', 10, 1, *more)
        machine.change((9, 0), 0, 9)
        with self.assertRaises(HasChanges):
            cheapest(machine, 'sink', 10, (1,))

    def test_arguments_by_name(self):
        machine = Machine(RING)
        answer = cheapest(prices=(1, 1), time=14, station='a', machine=machine)
        self.assertEqual(answer, cheapest(machine, 'a', 14, (1, 1)))
        self.assertIs(shows_cheapest(value=answer, prices=(1, 1), time=14, station='a', machine=machine), True)


if __name__ == '__main__':
    unittest.main()
