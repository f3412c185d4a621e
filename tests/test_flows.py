"""Point 14: answers about the cheapest longer delays."""

import itertools
import random
import unittest

from farasnothing.flows import shows_cheapest
from farasnothing.lengths import cheapest
from farasnothing.machine import Machine
from tests.chained import chain_machine, chains_to, is_right_flow, least_price, on_way_early, time_of
from tests.samples import MODEL, RING, any_values, part_at, paths_of, replaced
from tests.test_lengths import any_receiver

# a sends to b on two lines beside one another, b to itself and to c.
STATIONS = (('a', (), (), ('o', 'p'), ('k',), ((),)), ('b', (), ('i', 'j', 'l'), ('o', 'p'), (), ((), (), ())),
            ('c', (), ('i',), (), (), ((),)))
LINES = (('a', 'o', 'b', 'i', 1), ('a', 'p', 'b', 'j', 2), ('b', 'o', 'b', 'l', 0), ('b', 'p', 'c', 'i', 1))
NET = (2, STATIONS, LINES, ((0, 'a', 'k', 0),))


class Flows(unittest.TestCase):

    def shown(self, value, time=5, prices=(1, 1, 1, 2), station='c', machine=None):
        return shows_cheapest(machine or Machine(NET), station, time, prices, value)

    def test_other_adds_and_other_flows(self):
        one, two = (((0, 3), 1), ((1, 3), 1)), (((0, 3), 2),)
        self.assertEqual(cheapest(Machine(NET), 'c', 5, (1, 1, 1, 2))[1], 5)
        for adds, flow, shown in (((1, 0, 0, 2), one, True), ((3, 2, 0, 0), one, True), ((2, 1, 0, 1), one, True),
                                  ((2, 1, 0, 1), one[::-1], True), ((2, 1, 0, 1), two, False),
                                  ((0, 0, 0, 3), one, False), ((3, 2, 1, 0), one, False), ((2, 2, 0, 0), one, False),
                                  ((2, 1, 0, 1), one[:1], False), ((2, 1, 0, 1), (), False),
                                  ((2, 1, 0, 1), (*one, ((0, 3), 1)), False), ((-1, 0, 0, 3), one, False),
                                  ((2, 1, 0, 1, 0), one, False), ((2, 1, 0), one, False)):
            self.assertIs(self.shown(('adds', 5, adds, flow)), shown, (adds, flow))

    def test_chains_that_stand_twice(self):
        """The amounts of a chain that stands twice are taken together."""
        for flow, shown in (((((0, 3), 2), ((1, 3), 3)), True), ((((0, 3), 1), ((0, 3), 1), ((1, 3), 3)), True),
                            ((((0, 3), 2), ((0, 3), 1), ((1, 3), 2)), False),
                            ((((1, 3), 1), ((0, 3), 2), ((1, 3), 2)), True)):
            self.assertIs(self.shown(('adds', 12, (0, 0, 0, 0), flow), prices=(2, 3, 1, 9)), False)
            self.assertIs(self.shown(('adds', 12, (3, 2, 0, 0), flow), prices=(2, 3, 1, 9)), shown, flow)

    def test_amounts_are_from_1(self):
        for amount in (0, -1, True, None, '1', (1,)):
            flow = (((0, 3), 1), ((1, 3), 1), ((0, 2, 3), amount))
            self.assertIs(self.shown(('adds', 5, (2, 1, 0, 1), flow)), False)
            self.assertIs(self.shown(('adds', 0, (0, 0, 0, 0), (((0, 3), amount),)), time=2), False)
        self.assertIs(self.shown(('adds', 0, (0, 0, 0, 0), ()), time=2), True)

    def test_chains_that_have_a_line_several_times(self):
        flow = (((0, 2, 2, 3), 1), ((1, 3), 1))
        self.assertIs(self.shown(('adds', 5, (2, 1, 0, 1), flow)), False)
        self.assertIs(self.shown(('adds', 5, (2, 1, 0, 1), flow), prices=(1, 1, None, 2)), True)
        self.assertIs(self.shown(('adds', 5, (2, 1, 0, 1), flow), prices=(1, 1, 2, 2)), True)
        self.assertIs(self.shown(('adds', 5, (2, 1, 0, 1), (((0, 2, 3), 1), ((1, 2, 3), 1))), prices=(1, 1, 1, 2)), False)
        self.assertIs(self.shown(('adds', 5, (2, 1, 0, 1), (((0, 2, 3), 1), ((1, 2, 3), 1))), prices=(1, 1, 2, 2)), True)

    def test_chains_through_the_station_itself(self):
        """A chain to b may come by b: each time as it ends there it is a chain."""
        machine = Machine(NET)
        answer = cheapest(machine, 'b', 4, (1, 1, 1, 2))
        self.assertEqual(answer[:3], ('adds', 5, (3, 2, 0, 0)))
        for chains, shown in ((((0,), (1,)), True), (((0, 2), (1,)), True), (((0, 2), (1, 2)), False),
                              (((0, 2, 2), (1,)), False), (((2,), (1,)), False)):
            flow = tuple([(chain, 1) for chain in chains])
            self.assertIs(shows_cheapest(machine, 'b', 4, (1, 1, 1, 2), ('adds', 5, (3, 2, 0, 0), flow)), shown)

    def test_any_chain_of_never(self):
        for prices, chains in (((None, 1, None, None), ((0, 3), (0, 2, 3), (0, 2, 2, 2, 3))),
                               ((None, None, 1, None), ((0, 3), (1, 3))), ((None, 1, 1, None), ((0, 3),)),
                               ((1, 1, None, None), ()), ((None, None, None, 1), ())):
            self.assertEqual(cheapest(Machine(NET), 'c', 5, prices)[0], 'never' if chains else 'adds')
            for chain in ((0, 3), (1, 3), (0, 2, 3), (1, 2, 3), (0, 2, 2, 2, 3), (0,), (3,), (2, 3), (3, 0), (0, 1, 3),
                          (), (0, 3, 3), (0, 4), (0, -1), [0, 3], (False, 3), ((0, 3),), 0, None):
                expected = repr(chain) in [repr(one) for one in chains]
                self.assertIs(self.shown(('never', chain), prices=prices), expected)
        self.assertIs(self.shown(('never', (0, 3)), time=2, prices=(None,) * 4), False)
        self.assertIs(self.shown(('never', (0, 3)), time=3, prices=(None,) * 4), True)
        self.assertIs(self.shown(('never', (1, 3)), time=3, prices=(None,) * 4), False)

    def test_a_letter_on_the_way(self):
        machine = Machine(MODEL)
        machine.take('tap')
        machine.take('tap')
        for time, value, shown in ((7, ('never', ()), True), (6, ('never', ()), False), (6, ('never', (0,)), False),
                                   (8, ('never', (0,)), True), (8, ('never', ()), True), (7, ('never', (0,)), False),
                                   (7, ('adds', 0, (0,), ()), False), (6, ('adds', 0, (0,), ()), True),
                                   (7, ('never', []), False), (7, ('never',), False), (7, ('never', (), ()), False)):
            self.assertIs(shows_cheapest(machine, 'sink', time, (None,), value), shown, (time, value))
        self.assertIs(shows_cheapest(machine, 'sink', 8, (3,), ('adds', 3, (1,), (((0,), 3),))), False)
        machine.come(0)
        self.assertIs(shows_cheapest(machine, 'sink', 8, (3,), ('adds', 3, (1,), (((0,), 3),))), True)
        self.assertIs(shows_cheapest(machine, 'sink', 7, (3,), ('never', ())), False)

    def test_a_chain_that_begins_with_a_letter_on_the_way(self):
        """It is on the way to b, so a chain begins there; it is too early for b itself."""
        machine = Machine((2, (('a', (), (), ('o', 'p'), ('k',), ((('send', 'o', 1),),)), *STATIONS[1:]), LINES, NET[3]))
        machine.take('a')
        self.assertEqual(cheapest(machine, 'c', 5, (1, 1, 1, 2)), ('adds', 6, (0, 0, 0, 3), (((3,), 2),)))
        self.assertIs(shows_cheapest(machine, 'c', 5, (1, 1, 1, 2), ('adds', 6, (0, 0, 0, 3), (((3,), 2),))), True)
        self.assertIs(shows_cheapest(machine, 'c', 5, (1, 1, 1, 2), ('adds', 6, (0, 0, 0, 3), (((0, 3), 2),))), False)
        self.assertEqual(cheapest(machine, 'b', 5, (1, 1, 1, 2)), ('never', ()))

    def test_what_others_make(self):
        right = others = 0
        for seed in range(5000, 6200):
            machine = chain_machine(seed, most=3, lines=4, delays=(0, 1, 2), latest=2)
            dice = random.Random(seed)
            name, time = any_receiver(machine, dice), dice.randint(2, 6)
            prices = tuple([dice.choice((None, 1, 1, 1, 2)) for _ in machine.model[2]])
            best = least_price(machine, name, time, prices)
            if best is None:
                self.assertNeverShown(machine, name, time, prices)
                continue
            answer = cheapest(machine, name, time, prices)
            chains = chains_to(machine, name, range(len(prices)))
            for adds in itertools.product(range(time + 1), repeat=len(prices)):
                price = sum([one * add for one, add in zip(prices, adds) if one])
                if abs(price - best) > 1 or price != best and dice.random() < 0.8:
                    continue
                shown = price == best and all([time_of(machine, chain, adds) >= time for chain in chains]) \
                    and all([one or not add for one, add in zip(prices, adds)])
                value = ('adds', price, adds, answer[3])
                self.assertIs(shows_cheapest(machine, name, time, prices, value), shown)
                others += shown and adds != answer[2]
            for _ in range(6):
                flow = tuple([(dice.choice(chains), dice.randint(1, 3)) for _ in range(dice.randint(0, 3)) if chains])
                shown = is_right_flow(machine, name, time, prices, flow, best)
                self.assertIs(shows_cheapest(machine, name, time, prices, (*answer[:3], flow)), shown)
                right += shown and flow != ()
            self.assertIs(shows_cheapest(machine, name, time, prices, ('never', ())), False)
            for chain in chains[:6]:
                self.assertIs(shows_cheapest(machine, name, time, prices, ('never', chain)), False)
        self.assertGreater(right, 20)
        self.assertGreater(others, 20)

    def assertNeverShown(self, machine, name, time, prices):
        """Of all chains those are shown that are too early and cannot grow, and no adds."""
        self.assertIs(shows_cheapest(machine, name, time, prices, ('never', ())), on_way_early(machine, name, time))
        for chain in chains_to(machine, name, range(len(prices))):
            shown = time_of(machine, chain) < time and not any([prices[line] for line in chain])
            self.assertIs(shows_cheapest(machine, name, time, prices, ('never', chain)), shown)
        adds = tuple([0 if price is None else 9 for price in prices])
        price = sum([one * add for one, add in zip(prices, adds) if one])
        self.assertIs(shows_cheapest(machine, name, time, prices, ('adds', price, adds, ())), False)

    def test_one_thing_otherwise_at_any_depth(self):
        machine, prices = Machine(NET), (1, 1, 1, 2)
        before = machine.copy()
        for answer in (('adds', 5, (1, 0, 0, 2), (((0, 3), 1), ((1, 3), 1))), ('never', (0, 3))):
            by = (None,) * 4 if answer[0] == 'never' else prices
            self.assertIs(self.shown(answer, prices=by), True)
            for path in paths_of(answer):
                part = part_at(answer, path)
                for value in [*any_values(), list(part) if isinstance(part, tuple) else 4]:
                    if type(value) is type(part) and value == part:
                        continue
                    shown = shows_cheapest(machine, 'c', 5, by, replaced(answer, path, value))
                    # A chain that is as long as another one, and one that begins with the other line, are right too.
                    right = answer[0] == 'never' and path == (1, 0) and type(value) is int and value == 1
                    self.assertIs(shown, right, (path, value))
        for value in any_values():
            for told in (value, ('never', value), ('adds', value, value, value), ('adds', 0, value, ()),
                         ('adds', 0, (0, 0, 0, 0), value), ('adds', 5, (1, 0, 0, 2), (value,)), (value, ())):
                self.assertIs(self.shown(told), False)
        self.assertEqual([machine, machine.log], [before, ()])

    def test_an_empty_flow(self):
        machine = Machine(RING)
        for time, prices, adds, price, shown in ((14, (1, 1), (0, 0), 0, True), (15, (1, 1), (0, 0), 0, False),
                                                 (14, (1, 1), (1, 0), 1, False), (14, (1, 1), (0, 0), False, False),
                                                 (14, (1, 1), (0, False), 0, False), (14, (None, 1), (1, 0), 0, False),
                                                 (14, (None, 1), (0, 0), 0, True), (14, (1, 1), [0, 0], 0, False)):
            self.assertIs(shows_cheapest(machine, 'b', time, prices, ('adds', price, adds, ())), shown)
        self.assertIs(shows_cheapest(machine, 'b', 14, (1, 1), ('adds', 0, (0, 0), (((1, 0), 1),))), False)


if __name__ == '__main__':
    unittest.main()
