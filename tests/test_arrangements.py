"""Point 13: answers about further knowledge."""

import itertools
import random
import unittest

from farasnothing.arrangements import shows_arranged
from farasnothing.errors import BadCount, BadPrices, NoItem, NoStation, OnWay
from farasnothing.machine import Machine
from farasnothing.notices import fewest
from tests.checks import Checks
from tests.driving import WORDS
from tests.heard import Heard, arranged, arranged_pair, net_pair
from tests.plain import PlainMachine
from tests.samples import MODEL, RING, any_values, part_at, paths_of, replaced

NONE = ('delays', 'delays')
STILL = (RING[0], RING[1], tuple([line[:4] + (0,) for line in RING[2]]), RING[3])
PRICES = (((2, 5), (3, 4)), (7, 6))


def every(machine):
    """All arrangements."""
    lines = range(len(machine.model[2]))
    for words in itertools.product(WORDS, repeat=len(machine.model[1])):
        for many in range(len(lines) + 1):
            for some in itertools.combinations(lines, many):
                yield (words, some)


def is_price_there(path, value):
    """Whether any value may stand in prices of two stations and lines."""
    if path == (1,) or path[0] == 0 and len(path) == 2:
        return value == (1, 2)
    return len(path) + path[0] == 3 and type(value) is int and 0 < value < 10


def price_of(machine, prices, arrangement):
    words, lines = arrangement
    price = 0
    for pair, word, knows in zip(prices[0], words, machine.knows):
        if WORDS.index(word) > WORDS.index(knows):
            price += pair[WORDS.index(word) - 1]
    for line in lines:
        sender, _, receiver, _, _ = machine.model[2][line]
        if not any([sender in roof and receiver in roof for roof in machine.roofs]):
            price += prices[1][line]
    return price


def are_levels_by_form(level):
    """Whether it is a tuple of pairs of stamps or None."""
    def is_stamp(value):
        return value is None or type(value) is tuple and [type(one) for one in value] == [int, int] and min(value) >= 0
    return type(level) is tuple and all([type(one) is tuple and len(one) == 2 and is_stamp(one[0]) and is_stamp(one[1])
                                         for one in level])


def within(one, other):
    return all([WORDS.index(word) <= WORDS.index(more) for word, more in zip(one[0], other[0])]) \
        and set(one[1]) <= set(other[1])


def answer_of(machine, station, most, prices):
    """An answer, by trying all arrangements: those that are not enough are all rows."""
    rows, enough = [], []
    for arrangement in every(machine):
        told = fewest(arranged(machine, arrangement), station, most)
        if told[0] == 'notices':
            enough.append((price_of(machine, prices, arrangement), arrangement, told[1]))
        else:
            rows.append((arrangement, told[:2]))
    if not enough:
        return ('none', tuple(rows)), enough
    price, arrangement, lines = min(enough)
    return ('arranged', price, arrangement, lines, tuple(rows)), enough


class Arranged(Checks, unittest.TestCase):

    def test_words_and_lines(self):
        machine = Machine(STILL)
        self.assertEqual(fewest(machine, 'b', 3), ('never', ((0, None), (0, None))))
        row = ((NONE, ()), ('never', ((0, None), (0, None))))
        cheap = ('arranged', 2, (('programs', 'delays'), ()), (0,), (row,))
        for value, shown in ((cheap, True), (replaced(cheap, (3,), (0, 0)), True), (replaced(cheap, (3,), (0, 1, 0)), True),
                             (replaced(cheap, (3,), (0,) * 4), False), (replaced(cheap, (3,), ()), False),
                             (replaced(cheap, (3,), (1,)), False), (replaced(cheap, (1,), 3), False),
                             (replaced(cheap, (4,), ()), False), (replaced(cheap, (4,), (row, row)), True),
                             (('arranged', 3, (('delays', 'programs'), ()), (1, 0), (row,)), False),
                             (('arranged', 7, (NONE, (0,)), (), (row,)), False),
                             (('arranged', 6, (NONE, (1,)), (), (row,)), False),
                             (('none', (row,)), False)):
            self.assertIs(shows_arranged(machine, 'b', 3, PRICES, value), shown, value)

    def test_machines_beside_plain_ones(self):
        kinds = {'none': 0, 'arranged': 0}
        dear = others = 0
        for seed in range(80):
            machine, plain = net_pair(seed, many=seed % 4 // 3 + 2, lines=(1, 2, 4, 2)[seed % 4], delays=((0, 0, 1), (1, 2, 3), (0,)))
            dice = random.Random(seed)
            names = [name for name in plain.names if machine.waiting(name)]
            if not names:
                continue
            late = [name for name in names if not machine.may_take(name)]
            station, most = dice.choice(late or names), dice.choice((0, 1, 1, 2, 3))
            if fewest(machine, station, most)[0] == 'notices' and seed % 10:
                continue
            prices = (tuple([(dice.randint(1, 9), dice.randint(1, 9)) for _ in plain.names]),
                      tuple([dice.randint(1, 9) for _ in plain.ends]))
            answer, enough = answer_of(machine, station, most, prices)
            self.assertIs(shows_arranged(machine, station, most, prices, answer), True)
            kinds[answer[0]] += 1
            dear += answer[0] == 'arranged' and answer[1] > 0
            others += self.other_answers(machine, plain, station, most, prices, answer, enough, dice)
        self.assertGreater(min(kinds.values()), 3)
        self.assertGreater(dear, 3)
        self.assertGreater(others, 5)

    def other_answers(self, machine, plain, station, most, prices, answer, enough, dice):
        """Other arrangements, rows left out, and answers with one thing otherwise; how many others are right."""
        others = 0
        rows = list(answer[-1])
        cheaper = [one for one in every(machine)
                   if answer[0] == 'none' or price_of(machine, prices, one) < answer[1]]
        for price, arrangement, lines in sorted(enough)[1:4] + dice.sample(enough, min(3, len(enough))):
            value = ('arranged', price, arrangement, lines, tuple(rows))
            shown = shows_arranged(machine, station, most, prices, value)
            self.assertIs(shown, price == answer[1])
            others += shown and value != answer
        for _ in range(4):
            some = dice.sample(rows, dice.randint(0, len(rows)))
            expected = all([any([within(one, row[0]) for row in some]) for one in cheaper])
            value = (*answer[:-1], tuple(some))
            self.assertIs(shows_arranged(machine, station, most, prices, value), expected)
        needed = [row for row in rows if not any([within(row[0], other[0]) for other in rows if other != row])]
        self.assertIs(shows_arranged(machine, station, most, prices, (*answer[:-1], tuple(needed))), True)
        if not rows:
            return others
        at = dice.randrange(len(rows))
        arrangement, (kind, told) = rows[at]
        by, plain_by = arranged_pair(machine, plain, arrangement)
        heard = Heard(plain_by)
        swapped = ('more' if kind == 'never' else 'never', told)
        for other in (swapped, (kind, told, ()), (kind,), (kind, None), [kind, told], ('notices', told)):
            value = (*answer[:-1], tuple(replaced(tuple(rows), (at,), (arrangement, other))))
            expected = False
            if other == swapped and heard.lines == [] and kind == 'never' and not told:
                continue
            self.assertIs(shows_arranged(machine, station, most, prices, value), expected, other)
        if kind == 'more':
            for levels in (told[1:], (*told, told[-1]), tuple([level[::-1] for level in told])):
                value = (*answer[:-1], replaced(tuple(rows), (at,), (arrangement, (kind, levels))))
                self.assertIs(shows_arranged(machine, station, most, prices, value),
                              heard.are_levels(levels, station, most + 1))
        return others

    def test_free_words_and_lines(self):
        machine = Machine(STILL, knows=('states', 'delays'), roofs=(('a', 'b'),))
        for words, lines, price in ((('delays', 'delays'), (), 0), (('states', 'delays'), (0, 1), 0),
                                    (('programs', 'delays'), (1,), 0), (('delays', 'programs'), (0,), 3),
                                    (('states', 'states'), (0,), 4)):
            value = ('arranged', price, (words, lines), (), ())
            self.assertIs(shows_arranged(machine, 'b', 0, PRICES, value), price == 0)
            self.assertIs(shows_arranged(machine, 'b', 0, PRICES, replaced(value, (1,), price + 1)), False)
        self.assertIs(shows_arranged(machine, 'b', 0, PRICES, ('arranged', False, (NONE, ()), (), ())), False)
        self.assertIs(shows_arranged(machine, 'b', 0, PRICES, ('none', ())), False)

    def test_one_station(self):
        station = ('s', (), ('i',), ('o',), ('k',), ((('send', 'o', 1),), ()))
        machine = Machine((2, (station,), (('s', 'o', 's', 'i', 3),), ((4, 's', 'k', 0),)))
        prices = (((1, 2),), (5,))
        for price, words, lines, shown in ((0, ('delays',), (), True), (0, ('delays',), (0,), True),
                                           (1, ('programs',), (), False), (2, ('states',), (0,), False),
                                           (5, ('delays',), (0,), False)):
            self.assertIs(shows_arranged(machine, 's', 0, prices, ('arranged', price, (words, lines), (), ())), shown)

    def test_none(self):
        sender = ('a', (), ('f',), ('o',), (), ((('send', 'o', 1),),))
        other = ('b', (), ('i',), (), ('k',), ((), ()))
        machine = Machine((2, (sender, other), (('a', 'o', 'b', 'i', 3),), ((0, 'a', 'f', 1), (9, 'b', 'k', 0))))
        prices = (((1, 2), (1, 2)), (9,))
        most = ((('states', 'states'), (0,)), ('never', ()))
        far = ((('states', 'states'), ()), ('never', ((3, 0),)))
        self.assertIs(shows_arranged(machine, 'b', 4, prices, ('none', (most,))), True)
        for kind in ('never', 'arranged', '', None, 0):
            self.assertIs(shows_arranged(machine, 'b', 4, prices, (kind, (most,))), False)
        for rows, shown in (((most, far), True), ((far, most), True), ((far,), False), ((), False), ((most, None), False),
                            (((most[0], ('never', ((3, 0),))),), False), (((far[0], ('never', ())), most), False),
                            (((most[0], ('more', ((), (), (), (), ()))),), False),
                            (((most[0], ('more', (((),), ((),), ((),), ((),), ((),)))),), True),
                            (((most[0], ('more', (((),), ((),), ((),), ((),)))),), False),
                            (((most[0], ('more', (((),),) * 6)),), False),
                            ((((('states', 'states'), (0, 0)), most[1]),), False),
                            ((((('states', 'states'), [0]), most[1]),), False),
                            ((((('states', 'states'), (False,)), most[1]),), False),
                            ((((('states',), (0,)), most[1]),), False), ((((('states', 'all'), (0,)), most[1]),), False),
                            (((most[0], most[1], ()),), False), ([most], False)):
            self.assertIs(shows_arranged(machine, 'b', 4, prices, ('none', rows)), shown, rows)

    def test_one_thing_otherwise_at_any_depth(self):
        machine = Machine(STILL)
        row = ((NONE, ()), ('never', ((0, None), (0, None))))
        answer = ('arranged', 2, (('programs', 'delays'), ()), (0,), (row,))
        before = machine.copy()
        for path in paths_of(answer):
            part = part_at(answer, path)
            for value in [*any_values(), list(part) if isinstance(part, tuple) else 3]:
                if type(value) is type(part) and value == part:
                    continue
                shown = shows_arranged(machine, 'b', 3, PRICES, replaced(answer, path, value))
                free = path in ((4, 0, 1, 1, 0, 0), (4, 0, 1, 1, 1, 0)) or path == (3,) and isinstance(value, tuple)
                self.assertIsInstance(shown, bool)
                if not free:
                    self.assertIs(shown, False, (path, value))
        for value in any_values():
            for told in (value, ('none', value), ('none', (value,)), ('arranged', value, value, value, value)):
                self.assertIs(shows_arranged(machine, 'b', 3, PRICES, told), False)
        self.assertEqual([machine, machine.log], [before, ()])

    def test_levels_with_one_thing_otherwise_at_any_depth(self):
        """Other stamps are right if they are levels; whatever else stands there is not."""
        machine = Machine(RING)
        heard = Heard(PlainMachine(RING, machine.knows, machine.roofs, (), ()))
        levels = fewest(machine, 'b', 3)[1]
        answer = ('arranged', 2, (('programs', 'delays'), ()), (0,), (((NONE, ()), ('more', levels)),))
        self.assertIs(shows_arranged(machine, 'b', 3, PRICES, answer), True)
        seen = {True: 0, False: 0}
        for path in paths_of(levels):
            part = part_at(levels, path)
            for value in [*any_values(), (9, 0), (6, 5), ((9, 0), (3, 0)), (((8, 0), (8, 0)),), list(part) if isinstance(part, tuple) else 0]:
                other = replaced(levels, path, value)
                form = isinstance(other, tuple) and len(other) == 4 and all([are_levels_by_form(level) for level in other])
                expected = form and heard.are_levels(other, 'b', 4)
                told = shows_arranged(machine, 'b', 3, PRICES, replaced(answer, (4, 0, 1, 1), other))
                self.assertIs(told, expected, other)
                seen[told] += 1
        self.assertGreater(min(seen.values()), 30)

    def test_errors_in_their_sequence(self):
        machine = Machine(RING)
        self.assertRaisesNaming(NoItem, 'a', shows_arranged, machine, 'a', 3, PRICES, None)
        for value in any_values():
            if value not in ('a', 'b'):
                self.assertRaisesWith(NoStation, value, shows_arranged, machine, value, value, value, value)
            if type(value) is not int or not 0 <= value <= 8:
                self.assertRaisesWith(BadCount, value, shows_arranged, machine, 'a', value, value, value)
            self.assertRaisesWith(BadPrices, value, shows_arranged, machine, 'a', 3, value, value)
            for path in paths_of(PRICES):
                if path and not is_price_there(path, value):
                    prices = replaced(PRICES, path, value)
                    self.assertRaisesWith(BadPrices, prices, shows_arranged, machine, 'a', 3, prices, value)
        for prices in ((PRICES[0][:1], PRICES[1]), (PRICES[0], PRICES[1][:1]), (*PRICES, ()), (PRICES[0] * 2, PRICES[1]),
                       (((1, 2, 3), (1, 2)), (1, 1)), (((1, 2), (1, 10)), (1, 1)), (((1, 2), (1, 2)), (1, 0))):
            self.assertRaisesWith(BadPrices, prices, shows_arranged, machine, 'a', 3, prices, None)
        machine.note(1)
        self.assertRaisesNaming(OnWay, 1, shows_arranged, machine, 'a', 3, PRICES, None)
        self.assertRaisesWith(BadPrices, 5, shows_arranged, machine, 'a', 3, 5, None)
        machine.come(1)
        self.assertIs(shows_arranged(value=None, prices=PRICES, most=3, station='b', machine=machine), False)


if __name__ == '__main__':
    unittest.main()
