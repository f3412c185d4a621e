"""Point 13: the cheapest further knowledge."""

import random
import unittest

from farasnothing.arrangements import shows_arranged
from farasnothing.arranging import arranged
from farasnothing.errors import BadCount, BadPrices, NoItem, NoStation, OnWay
from farasnothing.levels import shows_fewest
from farasnothing.machine import Machine
from farasnothing.notices import fewest
from tests.checks import Checks
from tests.heard import Heard, arranged as machine_by, arranged_pair, net_pair
from tests.samples import RING, any_values, paths_of, replaced
from tests.test_arrangements import NONE, PRICES, STILL, every, is_price_there, price_of, within


def any_prices(dice, machine):
    """Prices of any kind, sometimes all alike, sometimes with words of one price."""
    most = dice.choice((1, 3, 9, 9))
    pairs = [(dice.randint(1, most), dice.randint(1, most)) for _ in machine.model[1]]
    return (tuple(pairs), tuple([dice.randint(1, most) for _ in machine.model[2]]))


class Arranging(Checks, unittest.TestCase):

    def test_an_example(self):
        machine = Machine(STILL)
        row = ((NONE, ()), ('never', ((0, None), (0, None))))
        self.assertEqual(arranged(machine, 'b', 3, PRICES), ('arranged', 2, (('programs', 'delays'), ()), (0,), (row,)))
        self.assertEqual(arranged(machine, 'b', 0, (((9, 9), (9, 9)), (9, 9)))[:2], ('arranged', 9))
        self.assertEqual(arranged(machine, 'b', 0, (((9, 9), (9, 9)), (4, 3)))[:4], ('arranged', 3, (NONE, (1,)), ()))
        self.assertEqual(arranged(machine, 'b', 0, (((9, 9), (9, 9)), (3, 4)))[:4], ('arranged', 3, (NONE, (0,)), ()))

    def test_nothing_more_need_be_known(self):
        machine = Machine(RING)
        told = fewest(machine, 'b', 8)
        answer = arranged(machine, 'b', 8, PRICES)
        self.assertEqual(answer, ('arranged', 0, (NONE, ()), told[1], ()))
        self.assertEqual(arranged(machine, 'b', 3, PRICES)[:2], ('arranged', 2))
        for knows, roofs in ((('programs', 'delays'), ()), (('states', 'states'), ()), ('delays', (('b', 'a'),))):
            other = Machine(STILL, knows=knows, roofs=roofs)
            answer = arranged(other, 'b', 1, PRICES)
            self.assertEqual([answer[:2], answer[4]], [('arranged', 0), ()])
            self.assertIs(shows_arranged(other, 'b', 1, PRICES, answer), True)

    def test_none(self):
        sender = ('a', (), ('f',), ('o',), (), ((('send', 'o', 1),),))
        other = ('b', (), ('i',), (), ('k',), ((), ()))
        machine = Machine((2, (sender, other), (('a', 'o', 'b', 'i', 3),), ((0, 'a', 'f', 1), (9, 'b', 'k', 0))))
        prices = (((1, 2), (1, 2)), (9,))
        for most in (0, 4, 8):
            answer = arranged(machine, 'b', most, prices)
            self.assertEqual(answer[0], 'none')
            self.assertEqual(len(answer), 2)
            self.assertIs(shows_arranged(machine, 'b', most, prices, answer), True)

    def test_several_notices_behind_further_knowledge(self):
        """What is enough is not always to know all that one can: most counts what is left."""
        machine = Machine(RING)
        seen = [arranged(machine, 'b', most, (((9, 9), (9, 9)), (9, 9)))[1] for most in range(6)]
        self.assertEqual(seen, [9, 9, 9, 9, 0, 0])
        answer = arranged(machine, 'b', 1, (((2, 9), (9, 9)), (9, 9)))
        self.assertEqual(answer[:4], ('arranged', 2, (('programs', 'delays'), ()), (0,)))

    def compare(self, seed, plain_too):
        """Compares what arranged tells with an own search; the answer, None without a station that has an item."""
        machine, plain = net_pair(seed, many=seed % 3 + 1, lines=(1, 2, 3, 4)[seed % 4],
                                  delays=((0, 0, 1), (1, 2, 3), (0,), (0, 1, 5)), latest=40)
        dice = random.Random(seed)
        names = [name for name in plain.names if machine.waiting(name)]
        late = [name for name in names if not machine.may_take(name)]
        if not names:
            return None
        station, most = dice.choice(late or names), dice.choice((0, 0, 1, 2, 3, 8))
        prices = any_prices(dice, machine)
        before, log = machine.copy(), machine.log
        answer = arranged(machine, station, most, prices)
        self.assertEqual([machine, machine.log], [before, log])
        self.assertIs(shows_arranged(machine, station, most, prices, answer), True)
        enough = {}
        for one in every(machine):
            told = fewest(machine_by(machine, one), station, most)
            if plain_too:
                heard = Heard(arranged_pair(machine, plain, one)[1])
                self.assertEqual(heard.least(station, most), told[1] if told[0] == 'notices' else None)
            if told[0] == 'notices':
                enough[one] = told[1]
        self.assertAnswer(machine, station, most, prices, answer, enough)
        return answer

    def assertAnswer(self, machine, station, most, prices, answer, enough):
        """The answer has the least price of those that are enough, the lines of fewest, and rows that are not enough."""
        cheaper = list(every(machine))
        if enough:
            _, price, arrangement, lines, rows = answer
            self.assertEqual(price, min([price_of(machine, prices, one) for one in enough]))
            self.assertEqual(price_of(machine, prices, arrangement), price)
            self.assertEqual(lines, enough[arrangement])
            cheaper = [one for one in cheaper if price_of(machine, prices, one) < price]
        else:
            kind, rows = answer
            self.assertEqual(kind, 'none')
        for one, (kind, told) in rows:
            self.assertNotIn(one, enough)
            other = machine_by(machine, one)
            by = fewest(other, station, most)
            self.assertEqual(by[:2], (kind, told))
            self.assertIs(shows_fewest(other, station, most, by), True)
        for one in cheaper:
            self.assertTrue(any([within(one, row[0]) for row in rows]))

    def test_against_an_own_search(self):
        kinds = {'arranged': 0, 'none': 0}
        dear = several = 0
        for seed in range(160):
            with self.subTest(seed=seed):
                answer = self.compare(seed, seed % 20 == 1)
                if answer is not None:
                    kinds[answer[0]] += 1
                    dear += answer[0] == 'arranged' and answer[1] > 0
                    several += len(answer[-1]) > 1
        self.assertGreater(min(kinds.values()), 9)
        self.assertGreater(dear, 9)
        self.assertGreater(several, 2)

    def test_errors_in_their_sequence(self):
        machine = Machine(RING)
        before = machine.copy()
        self.assertRaisesNaming(NoItem, 'a', arranged, machine, 'a', 3, PRICES)
        for value in any_values():
            if value not in ('a', 'b'):
                self.assertRaisesWith(NoStation, value, arranged, machine, value, value, value)
            if type(value) is not int or not 0 <= value <= 8:
                self.assertRaisesWith(BadCount, value, arranged, machine, 'a', value, value)
            self.assertRaisesWith(BadPrices, value, arranged, machine, 'a', 3, value)
            for path in paths_of(PRICES):
                if path and not is_price_there(path, value):
                    prices = replaced(PRICES, path, value)
                    self.assertRaisesWith(BadPrices, prices, arranged, machine, 'a', 3, prices)
        self.assertRaisesWith(BadCount, 9, arranged, machine, 'b', 9, PRICES)
        self.assertEqual([machine, machine.log], [before, ()])
        machine.note(1)
        self.assertRaisesNaming(OnWay, 1, arranged, machine, 'a', 3, PRICES)
        self.assertRaisesNaming(OnWay, 1, arranged, machine, 'b', 8, PRICES)
        self.assertRaisesWith(BadPrices, 5, arranged, machine, 'a', 3, 5)
        machine.come(1)
        told = arranged(prices=PRICES, most=3, station='b', machine=machine)
        self.assertIs(shows_arranged(machine, 'b', 3, PRICES, told), True)


if __name__ == '__main__':
    unittest.main()
