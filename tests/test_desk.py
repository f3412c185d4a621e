"""Point 21: a desk, beside a machine that is given the same orders."""

import random
import unittest

from farasnothing.bounds import bound
from farasnothing.desk import Desk
from farasnothing.errors import (BadCount, BadKnows, BadLine, BadModel, BadText, FarError, NoItem, NoLine, NoStation,
                                 NothingToRedo, NothingToUndo, OnWay, Waits)
from farasnothing.journals import read_journal
from farasnothing.keeper import Keeper
from farasnothing.notices import fewest
from farasnothing.rows import row
from farasnothing.texts import show_deed
from tests.checks import Checks
from tests.driving import ALL
from tests.keeping import any_order, given, led_keeper, line_of
from tests.samples import MODEL, RING, any_values

LINES = ('come 0', 'take tap', 'note 0', 'learn tap states', 'unite tap sink', 'survey', 'picture tap', 'mark tap',
         'fall sink', 'forget', 'back 0.0', 'change 9.0 0 5', 'go 2', 'undo', 'redo', 'next tap', 'may tap', 'heard 0',
         'promise 0', 'told 0', 'bound 0 known', 'fewest sink 3', 'row sink tap', 'worths tap', 'said sink')


def stamp(value):
    return 'never' if value is None else f'{value[0]}.{value[1]}'


def words(values, none='-'):
    return ' '.join([str(value) for value in values]) or none


def rows(values):
    return words(['-' if value is None else value for value in values])


def answer(order, told):
    """What a desk answers to an order that returned this."""
    if order[0] == 'come':
        return {'letter': lambda: f'letter {stamp(told[1])} {told[2]}', 'notice': lambda: f'notice {stamp(told[1])}',
                'flag': lambda: 'flag'}[told[0]]()
    if order[0] == 'note':
        return stamp(told)
    if order[0] == 'take':
        return show_deed(told)
    if order[0] in ('fall', 'forget'):
        return rows(told)
    return str(len(told)) if order[0] == 'go' else 'done'


class Desks(Checks, unittest.TestCase):

    def desk(self, model=MODEL, **named):
        return Desk(Keeper(model, **named).journal)

    def test_each_row_of_the_table(self):
        desk = self.desk()
        for line, told in (
                ('next tap', '0.0 a 1'), ('next sink', '-'), ('may tap', 'yes'), ('may sink', 'no'), ('worths tap', '0'),
                ('worths sink', '-'), ('said sink', '-'), ('heard 0', '0.0'), ('promise 0', '4.0'), ('told 0', '0.0'),
                ('take tap', '0.0 tap a 1'), ('take tap', '2.0 tap a 3 > 0 0 6.0 4'), ('note 0', '7.0'), ('told 0', '7.0'),
                ('bound 0 known', '6.0'), ('bound 0 states', '6.0'), ('row sink', '- 0'), ('row sink tap', '0 0'),
                ('row tap', '0 -'), ('mark tap', 'done'), ('row tap', '2 -'), ('next tap', '3.0 bell 0'),
                ('come 0', 'letter 6.0 4'), ('heard 0', '6.0'), ('come 0', 'notice 7.0'), ('fewest sink 4', '-'),
                ('take sink', '6.0 sink b 4 : 4'), ('said sink', '4'), ('picture tap', 'done'), ('come 0', 'flag'),
                ('take tap', '3.0 tap bell 0 > 0 1 7.0 1'), ('bound 0 delays', '7.0'), ('promise 0', 'never'),
                ('fall sink', '- 0'), ('row sink', '- 0'), ('heard 0', '0.0'), ('note 0', 'never'), ('told 0', 'never'),
                ('undo', 'done'), ('told 0', '7.0'), ('redo', 'done'), ('told 0', 'never'), ('go 7', '2'), ('said sink', '4 1'),
                ('come 0', None), ('heard 0', 'never'), ('bound 0 known', 'never'), ('back 7.0', 'done'), ('heard 0', '7.0'),
                ('said sink', '4'), ('forget', '2 0'), ('learn tap programs', 'done'), ('unite sink tap', 'done'),
                ('survey', 'done'), ('change 9.0 0 5', 'done'), ('go 0', '0')):
            if told is None:
                with self.assertRaises(FarError):
                    desk.say(line)
            else:
                self.assertEqual(desk.say(line), told, line)
        self.assertEqual(desk.say(line='next tap'), '-')
        self.assertEqual(Desk(text=desk.keeper.journal).keeper.orders, desk.keeper.orders)

    def test_fewest(self):
        desk = self.desk(RING)
        for line, told in (('fewest b 8', '1 0 1 0'), ('fewest b 4', '1 0 1 0'), ('fewest b 3', 'more'), ('fewest b 0', 'more')):
            self.assertEqual(desk.say(line), told)
        still = (RING[0], RING[1], tuple([line[:4] + (0,) for line in RING[2]]), RING[3])
        self.assertEqual(self.desk(still).say('fewest b 8'), 'never')
        self.assertRaisesNaming(NoItem, 'a', desk.say, 'fewest a 3')
        self.assertRaisesNaming(BadCount, 9, desk.say, 'fewest a 9')
        self.assertRaisesNaming(NoStation, 'c', desk.say, 'fewest c 9')
        desk.say('note 1')
        self.assertRaisesNaming(OnWay, 1, desk.say, 'fewest b 3')

    def test_several_cells_and_sayings(self):
        station = ('s', (('p', 1), ('q', 0), ('r', 2)), ('i',), (), (), ((('say', 'it'), ('say', 'p'), ('set', 'q', 'it')),))
        desk = self.desk((3, (station,), (), ((0, 's', 'i', 2), (1, 's', 'i', 1))))
        self.assertEqual([desk.say('go 5'), desk.say('worths s'), desk.say('said s')], ['2', '1 1 2', '2 1 1 1'])
        self.assertEqual(desk.say('undo'), 'done')
        self.assertEqual([desk.say('worths s'), desk.say('said s'), desk.keeper.orders], ['1 0 2', '-', ()])

    def test_errors_of_the_keeper_and_the_functions(self):
        desk = self.desk(RING)
        for error, value, line in (
                (NoStation, 'nobody', 'next nobody'), (NoStation, 'nobody', 'may nobody'), (NoStation, 'nobody', 'worths nobody'),
                (NoStation, 'nobody', 'said nobody'), (NoStation, 'nobody', 'row b nobody'), (NoStation, ('b', 'b'), 'row b b'),
                (NoLine, 2, 'heard 2'), (NoLine, 2, 'promise 2'), (NoLine, 2, 'told 2'), (NoLine, 2, 'bound 2 known'),
                (NoLine, 999999999, 'come 999999999'), (Waits, 0, 'take b'), (NoItem, 'a', 'take a'),
                (NoStation, 'nobody', 'take nobody'), (BadKnows, 'delays', 'learn b delays')):
            if error is BadKnows:
                desk.say('learn b states')
            self.assertRaisesNaming(error, value, desk.say, line)
        desk.say('undo')
        for error, line in ((NothingToUndo, 'undo'), (NothingToRedo, 'redo')):
            if error is NothingToRedo:
                desk.say('survey')
            with self.assertRaises(error):
                desk.say(line)

    def test_lines_that_have_no_form(self):
        desk = self.desk()
        desk.say('take tap')
        before = (desk.keeper.journal, desk.keeper.machine_now())
        for value in any_values():
            self.assertRaisesWith(BadLine, value, desk.say, value)
        for line in LINES:
            for value in (' ' + line, line + ' ', line.replace(' ', '  ') + ('' if ' ' in line else ' '), line.upper(),
                          line + ' 1 1', line + '\n', line.replace(' ', '\t') + ('' if ' ' in line else '\t'), line + ' A',
                          line.replace('0', '00') + ('' if '0' in line else 'x.'), line.replace('0', '-1') + '.'):
                self.assertRaisesWith(BadLine, value, desk.say, value)
        for value in ('', 'go', 'go x', 'go 01', 'go -1', 'go 1234567890', 'go 1.0', 'go 1 1', 'undo 1', 'redo redo', 'next',
                      'next 0', 'next Tap', 'next tap sink', 'next abcdefghi', 'may', 'may 0', 'heard', 'heard tap', 'heard 0 0',
                      'promise x', 'told never', 'bound 0', 'bound 0 all', 'bound tap delays', 'bound 0 Known', 'bound delays 0',
                      'bound 0 known known', 'fewest tap', 'fewest 3 tap', 'fewest tap x', 'fewest tap 3 3', 'row', 'row 0',
                      'row tap 1', 'worths', 'worths 0', 'worths tap sink', 'said', 'said 1', 'learn tap known', 'learn tap all',
                      'take', 'survey 0', 'back 0', 'back 1.', 'change 0.0 0', 'copy', 'log', 'marks tap', 'size 5', 'journal',
                      'knows delays delays', 'unwritten 0', 'roof tap', 'orders', 'say', 'deeds tap', 'next\u00a0tap', 'go \u0663'):
            self.assertRaisesWith(BadLine, value, desk.say, value)
        self.assertEqual(desk.keeper.journal, before[0])
        self.assertTrue(desk.keeper.machine_now() == before[1])

    def test_the_errors_of_read_journal(self):
        for value in any_values():
            if not isinstance(value, str):
                self.assertRaisesWith(BadText, 0, Desk, value)
        text = Keeper(MODEL).journal
        many = len(text.split('\n'))
        for error, value, journal in (
                (BadText, 0, ''), (BadText, many, text + '\ntake sink'), (BadText, many, text + '\ntale sink'),
                (BadText, many, text + '\nnext tap'), (BadModel, (7, *MODEL[1:]), text.replace('size 5', 'size 7')),
                (BadKnows, ('delays',) * 3, text + ' delays'), (NoLine, 1, text + '\nunwritten 1')):
            self.assertRaisesNaming(error, value, Desk, journal)

    def test_a_keeper_that_is_led_otherwise_too(self):
        desk = self.desk()
        self.assertIsInstance(vars(desk)['keeper'], Keeper)
        desk.keeper.go(3)
        self.assertEqual(desk.say('next tap'), '-')
        with desk.keeper.trial():
            desk.say('go 1')
        self.assertEqual([desk.say('undo'), desk.keeper.orders], ['done', ()])

    def test_beside_a_machine(self):
        """Each line is answered as the machine tells that is given the same orders."""
        asked = 0
        for seed in range(70):
            keeper = led_keeper(seed, 10, busy=seed % 2 == 0)
            desk, dice = Desk(keeper.journal), random.Random(seed)
            self.assertTrue(desk.keeper == read_journal(keeper.journal))
            for _ in range(25):
                machine = desk.keeper.machine_now()
                order = any_order(machine, dice, ALL)
                if order[0] not in ('undo', 'redo') and None not in order and -1 not in order and '' not in order \
                        and order[1:] not in (((),), (3,)) and 'all' not in order:
                    self.order_both(desk, machine, order)
                asked += self.ask(desk, dice)
        self.assertGreater(asked, 3000)

    def order_both(self, desk, machine, order):
        told = given(machine, order)
        try:
            self.assertEqual(('done', desk.say(line_of(order))), (told[0], answer(order, told[1])))
        except FarError as error:
            self.assertEqual(told, ('refused', type(error).__name__, vars(error)))
        self.assertTrue(desk.keeper.machine_now() == machine)

    def ask(self, desk, dice):
        """Asks about a station and a line; how many questions were answered."""
        machine = desk.keeper.machine_now()
        names = [station[0] for station in machine.model[1]]
        name, most = dice.choice(names), dice.choice((0, 1, 3))
        some = tuple(dice.sample(names, dice.randint(1, len(names))))
        item = machine.next_item(name)
        asked = {f'next {name}': '-' if item is None else f'{stamp(item[0])} {item[1]} {item[2]}',
                 f'may {name}': 'yes' if machine.may_take(name) else 'no', f'worths {name}': words(machine.worths(name)),
                 f'said {name}': words([one for deed in machine.deeds_of(name) for one in deed[5]]),
                 'row ' + ' '.join(some): rows(row(machine, some)[0])}
        if machine.model[2]:
            line = dice.randrange(len(machine.model[2]))
            asked.update({f'heard {line}': stamp(machine.heard(line)), f'told {line}': stamp(machine.told(line))})
            for by in ('delays', 'programs', 'states', 'known'):
                asked[f'bound {line} {by}'] = stamp(bound(machine, line, by))
            try:
                asked[f'promise {line}'] = stamp(machine.promise(line))
            except FarError as error:
                self.assertRaisesNaming(type(error), line, desk.say, f'promise {line}')
        try:
            told = fewest(machine, name, most)
            asked[f'fewest {name} {most}'] = words(told[1]) if told[0] == 'notices' else told[0]
        except FarError as error:
            self.assertRaisesNaming(type(error), list(vars(error).values())[0], desk.say, f'fewest {name} {most}')
        before = desk.keeper.journal
        for question, told in asked.items():
            self.assertEqual(desk.say(question), told, question)
        self.assertEqual(desk.keeper.journal, before)
        self.assertTrue(desk.keeper.machine_now() == machine)
        return len(asked)


if __name__ == '__main__':
    unittest.main()
