"""Point 20: keepers that are read from their journals; guarantees over long histories."""

import random
import unittest

from farasnothing.errors import BadKnows, BadModel, BadRoofs, BadText, FarError, NoLine
from farasnothing.journals import read_journal
from farasnothing.keeper import Keeper
from farasnothing.machine import Machine
from farasnothing.oneclock import Clock
from farasnothing.texts import show_model
from tests.checks import Checks
from tests.driving import ALL
from tests.keeping import any_order, journal_told, led_keeper, made_keeper, told_by
from tests.samples import MODEL, RING, Maker, any_values
from tests.wording import JUNK, spoiled

HEAD = show_model(MODEL)
MANY = len(HEAD.split('\n'))


def journal(*rows):
    """A journal of the model of the document with these lines behind it."""
    return '\n'.join([HEAD, *rows])


class Journals(Checks, unittest.TestCase):

    def assertBad(self, text, line):
        with self.assertRaises(BadText) as caught:
            read_journal(text)
        self.assertEqual(caught.exception.line, line, text)

    def test_all_lines(self):
        keeper = Keeper(MODEL, knows=('delays', 'programs'), unwritten=(0,))
        orders = (('take', 'tap'), ('note', 0), ('take', 'tap'), ('come', 0), ('mark', 'tap'), ('picture', ('tap', 'sink')),
                  ('come', 0), ('survey',), ('learn', 'sink', 'states'), ('take', 'sink'), ('fall', ('sink', 'tap')),
                  ('change', (9, 1), 0, 20), ('forget',), ('unite', 'tap', 'sink'), ('back', (2, 0)), ('mark', 'sink'))
        for order in orders:
            keeper.do(order)
        rows = ['knows delays programs', 'unwritten 0', 'take tap', 'note 0', 'take tap', 'come 0', 'mark tap',
                'picture tap sink', 'come 0', 'survey', 'learn sink states', 'take sink', 'fall sink tap',
                'change 9.1 0 20', 'forget', 'unite tap sink', 'back 2.0', 'mark sink']
        self.assertEqual(keeper.journal, journal(*rows))
        self.assertSame(keeper, read_journal(text=keeper.journal))

    def test_roofs(self):
        model = (2, tuple([(name, (), (), (), (), ()) for name in 'abcde']), (), ())
        keeper = Keeper(model, roofs=(('e', 'b'), ('c',), ('d', 'a')))
        self.assertEqual(keeper.journal.split('\n')[6:], ['knows ' + ' '.join(['delays'] * 5), 'roof a d', 'roof b e'])
        self.assertSame(keeper, read_journal(keeper.journal))
        keeper.do(('unite', 'c', 'a'))
        self.assertEqual(keeper.journal.split('\n')[7:], ['roof a d', 'roof b e', 'unite c a'])
        for roofs in (('roof e b', 'roof c', 'roof d a'), ('roof c', 'roof b e', 'roof a d')):
            told = read_journal('\n'.join([show_model(model), 'knows' + ' delays' * 5, *roofs]))
            self.assertTrue(told == Keeper(model, roofs=(('e', 'b'), ('d', 'a'))))

    def test_unwritten_lines(self):
        keeper = Keeper(RING, unwritten=(1, 0))
        self.assertEqual(keeper.journal.split('\n')[-2:], ['knows delays delays', 'unwritten 0 1'])
        self.assertSame(keeper, read_journal(keeper.journal))
        self.assertTrue(read_journal(keeper.journal.replace('0 1', '1 0')) == keeper)

    def assertSame(self, keeper, other):
        self.assertTrue(keeper == other)
        self.assertEqual([keeper.orders, keeper.journal], [other.orders, other.journal])

    def test_read_as_it_was_written(self):
        orders = 0
        for seed in range(120):
            keeper = led_keeper(seed, 60, busy=seed % 2 == 0)
            other = read_journal(keeper.journal)
            self.assertSame(keeper, other)
            orders += len(keeper.orders)
            dice = random.Random(seed)
            for _ in range(12):
                order = any_order(keeper.machine_now(), dice)
                if order[0] not in ('undo', 'redo'):
                    self.assertEqual(told_by(keeper, order), told_by(other, order))
                    self.assertSame(keeper, other)
        self.assertGreater(orders, 1500)

    def test_orders_are_steps_one_by_one(self):
        keeper = Keeper(MODEL)
        keeper.go(9)
        other = read_journal(keeper.journal)
        for many in range(len(keeper.orders), 0, -1):
            self.assertEqual(len(other.orders), many)
            other.undo()
        self.assertSame(other, Keeper(MODEL))

    def test_what_is_undone_is_not_in_it(self):
        keeper = Keeper(MODEL)
        keeper.do(('take', 'tap'))
        first = keeper.journal
        keeper.go(3)
        keeper.undo()
        self.assertEqual(keeper.journal, first)
        with keeper.trial():
            keeper.go(2)
        self.assertEqual(keeper.journal, first)

    def test_no_string_and_lines_that_are_missing(self):
        for value in any_values():
            if isinstance(value, str):
                self.assertBad(value, 0)
            else:
                self.assertRaisesWith(BadText, 0, read_journal, value)
        self.assertBad(HEAD, MANY)
        self.assertBad(HEAD + '\n', MANY)
        self.assertBad(journal('knows delays delays', ''), MANY + 1)
        self.assertBad('', 0)
        self.assertBad('size 2\nstation a\n  in b\n    if 1 = 1\n    else\nknows delays', 5)

    def test_forms(self):
        head = ('knows delays states', 'roof tap sink', 'unwritten 0')
        for rows, line in (
                (('knows',), 0), (('knows all',), 0), (('knows delays  delays',), 0), (('knows delays known',), 0),
                (('know delays delays',), 0), (('take tap',), 0), (('roof tap sink',), 0), (('unwritten 0',), 0),
                (('  knows delays delays',), 0), (('knows delays states', 'knows delays states'), 1),
                (('knows delays states', 'roof'), 1), (('knows delays states', 'roof tap 1'), 1),
                (('knows delays states', 'unwritten'), 1), (('knows delays states', 'unwritten tap'), 1),
                (('knows delays states', 'unwritten 00'), 1), (('knows delays states', 'unwritten 0', 'unwritten 0'), 2),
                (('knows delays states', 'unwritten 0', 'roof tap sink'), 2), ((*head, 'roof tap'), 3),
                ((*head, 'first 0 tap a 1'), 3), ((*head, 'survey', 'unwritten 0'), 4), ((*head, 'survey', 'knows delays states'), 4),
                ((*head, 'survey', ''), 4), ((*head, 'go 3'), 3), ((*head, 'undo'), 3), ((*head, 'take'), 3), ((*head, 'take 1'), 3),
                ((*head, 'take tap tap'), 3), ((*head, 'Take tap'), 3), ((*head, ' take tap'), 3), ((*head, 'take tap '), 3),
                ((*head, 'take  tap'), 3), ((*head, 'come tap'), 3), ((*head, 'come 01'), 3), ((*head, 'come 1234567890'), 3),
                ((*head, 'survey 1'), 3), ((*head, 'learn tap all'), 3), ((*head, 'learn states'), 3), ((*head, 'unite tap'), 3),
                ((*head, 'picture'), 3), ((*head, 'fall'), 3), ((*head, 'fall tap 0'), 3), ((*head, 'back 1'), 3),
                ((*head, 'back 1.'), 3), ((*head, 'back .1'), 3), ((*head, 'back 1.2.3'), 3), ((*head, 'back 01.2'), 3),
                ((*head, 'back 1.02'), 3), ((*head, 'back 1,2'), 3), ((*head, 'back 1 2'), 3), ((*head, 'back never'), 3),
                ((*head, 'change 1.0 0'), 3), ((*head, 'change 1.0 0 3 3'), 3), ((*head, 'change 1 0 3'), 3),
                ((*head, 'change 1.0 0 -3'), 3), ((*head, 'forget tap'), 3), ((*head, 'mark'), 3), ((*head, 'next tap'), 3)):
            self.assertBad(journal(*rows), MANY + line)

    def test_the_sequence_of_the_errors(self):
        right = ('knows delays states', 'roof tap sink', 'unwritten 0')
        wrong = ('knows delays', 'roof tap tap', 'unwritten 0 0')
        worse = HEAD.replace('size 5', 'size 7')
        for head, rows, error, value in (
                (worse, (*wrong, 'take nobody', 'tale'), BadText, MANY + 4),
                (worse, (*wrong, 'take nobody'), BadModel, (7, *MODEL[1:])), (HEAD, (*wrong, 'take nobody'), BadKnows, ('delays',)),
                (HEAD, (right[0], *wrong[1:], 'take nobody'), BadRoofs, (('tap', 'tap'),)),
                (HEAD, (*right[:2], wrong[2], 'take nobody'), NoLine, (0, 0)), (HEAD, (*right, 'take nobody'), BadText, MANY + 3)):
            self.assertRaisesNaming(error, value, read_journal, '\n'.join([head, *rows]))

    def test_words_roofs_and_lines_that_are_none(self):
        for row in ('knows delays', 'knows delays delays states'):
            self.assertRaisesNaming(BadKnows, tuple(row.split(' ')[1:]), read_journal, journal(row, 'roof x', 'unwritten 9'))
        for rows in (('roof nobody',), ('roof tap', 'roof sink tap'), ('roof tap tap',), ('roof tap', 'roof knows')):
            value = tuple([tuple(row.split(' ')[1:]) for row in rows])
            self.assertRaisesNaming(BadRoofs, value, read_journal, journal('knows delays delays', *rows, 'unwritten 9'))
        for row, value in (('unwritten 1', 1), ('unwritten 0 7 8', 7), ('unwritten 0 0', (0, 0)), ('unwritten 999999999', 999999999)):
            self.assertRaisesNaming(NoLine, value, read_journal, journal('knows delays delays', row, 'come 9'))

    def test_orders_that_are_refused(self):
        begin = ('knows states delays', 'take tap', 'mark tap')
        for row in ('come 0', 'come 7', 'take sink', 'take nobody', 'note 5', 'learn tap delays', 'learn nobody states',
                    'unite tap nobody', 'picture sink', 'picture tap tap', 'mark nobody', 'fall tap tap', 'fall nobody',
                    'change 0.0 0 5', 'change 9.0 1 5', 'change 9.0 0 21'):
            self.assertBad(journal(*begin, row), MANY + 3)
            self.assertBad(journal(*begin, row, 'take nobody'), MANY + 3)
            self.assertBad(journal(*begin, row, 'take'), MANY + 4)
        self.assertBad(journal(*begin, 'take tap', 'forget', 'survey', 'come 0', 'come 0', 'come 0'), MANY + 7)

    def test_spoiled_journals(self):
        """Each thing otherwise: what is read, or which error is raised, is as by the other reader."""
        kinds = {}
        for seed in range(260):
            dice = random.Random(seed)
            keeper = led_keeper(seed, 12, busy=seed % 2 == 0)
            rows = keeper.journal.split('\n')
            head = len(rows) - len(keeper.orders)
            for _ in range(6):
                if dice.random() < 0.4:
                    text = spoiled(keeper.journal, dice)
                else:
                    text = '\n'.join([*rows[:head], *self.shuffled(rows[head:], dice)])
                kind = self.assertRead(text)
                kinds[kind] = kinds.get(kind, 0) + 1
        self.assertGreater(min([kinds.get(kind, 0) for kind in ('BadText', 'BadModel', 'NoLine', 'read')]), 0, kinds)
        self.assertGreater(min([kinds.get(kind, 0) for kind in ('BadText', 'BadModel', 'read')]), 30, kinds)

    def shuffled(self, rows, dice):
        """Lines of orders left out, twice, in another sequence, with a word otherwise."""
        rows = list(rows) or ['survey']
        at, other = dice.randrange(len(rows)), dice.randrange(len(rows))
        kind = dice.randrange(4)
        if kind == 0:
            return rows[:at] + rows[at + 1:]
        if kind == 1:
            return rows[:at] + rows[other:other + 1] + rows[at:]
        if kind == 2:
            rows[at], rows[other] = rows[other], rows[at]
            return rows
        words = rows[at].split(' ')
        words[dice.randrange(len(words))] = dice.choice(('s', 'u', 'w', '0', '1', '7', '3.0', '0.0', 'states', 'take', 'come', 'fall'))
        return rows[:at] + [' '.join(words)] + rows[at + 1:]

    def assertRead(self, text):
        """A text is read as by the other reader; what became of it."""
        kind, told = journal_told(text)
        try:
            keeper = read_journal(text)
        except FarError as error:
            self.assertEqual((type(error).__name__, list(vars(error).values())[0]), (kind, told), text)
            return kind
        self.assertEqual(kind, 'read', text)
        self.assertTrue(keeper.machine_now() == told)
        self.assertEqual(keeper.orders, told.log)
        self.assertSame(keeper, read_journal(keeper.journal))
        return kind

    def test_junk(self):
        """Any line at any place behind the model."""
        text = journal('knows delays states', 'roof tap', 'roof sink', 'unwritten 0', 'take tap', 'survey', 'mark sink')
        rows = text.split('\n')
        lines = [*JUNK, 'knows states', 'roof tap', 'roof it', 'unwritten 0', 'unwritten 3', 'come 0', 'take tap', 'note 0',
                 'learn tap states', 'unite tap sink', 'survey', 'picture tap', 'picture sink', 'mark tap', 'fall tap sink', 'forget',
                 'back 0.0', 'back 1', 'change 9.0 0 5', 'change 0.0 0 5', 'go 1', 'undo', 'learn tap known', 'fall', 'fall tap 0']
        kinds = {}
        for at in range(MANY - 1, len(rows) + 1):
            for row in lines:
                for others in (rows[at:], rows[at + 1:]):
                    kind = self.assertRead('\n'.join([*rows[:at], row, *others]))
                    kinds[kind] = kinds.get(kind, 0) + 1
        self.assertGreater(min([kinds.get(kind, 0) for kind in ('BadText', 'BadModel', 'BadRoofs', 'NoLine', 'read')]), 0, kinds)


class Histories(unittest.TestCase):
    """Guarantees (a), (b), (f) and (g) of section 3, by long histories of keepers."""

    def test_by_text_and_back(self):
        taken = letters = 0
        for seed in range(300, 340):
            keeper = made_keeper(seed, busy=seed % 4 != 0)
            dice = random.Random(seed)
            for at in range(90):
                machine = keeper.machine_now()
                heard = [machine.heard(line) for line, _ in enumerate(machine.model[2])]
                order = any_order(machine, dice, ALL)
                told = told_by(keeper, order)
                if told[0] == 'done' and order[0] == 'come' and told[1][0] == 'letter':
                    letters += 1
                    self.assertTrue(heard[order[1]] is not None and told[1][1] >= heard[order[1]])
                if at % 30 == 29:
                    taken += self.assertBeginning(keeper.machine_now())
                    self.assertTrue(read_journal(keeper.journal) == keeper)
        self.assertGreater(taken, 300)
        self.assertGreater(letters, 90)

    def assertBeginning(self, machine):
        clock, many = Clock(machine.model, changes=machine.changes), 0
        list(clock.run(150))
        for station in machine.model[1]:
            deeds = machine.deeds_of(station[0])
            plain = tuple([deed for deed in clock.deeds if deed[1] == station[0]])
            self.assertEqual(deeds[:len(plain)], plain[:len(deeds)])
            many += len(deeds)
        return many

    def test_what_is_taken_in_the_end(self):
        """Whatever was done, undone and tried: gone to the end, all have the deeds and worths of one clock."""
        ended = 0
        for seed in range(400, 440):
            keeper = led_keeper(seed, 60, busy=True)
            if len(keeper.go(150)) == 150:
                continue
            machine = keeper.machine_now()
            ended += 1
            clock = Clock(machine.model, changes=machine.changes)
            list(clock.run(600))
            for station in machine.model[1]:
                name = station[0]
                plain = tuple([deed for deed in clock.deeds if deed[1] == name])
                self.assertEqual([machine.deeds_of(name), machine.worths(name), machine.behind(name)],
                                 [plain, clock.worths(name), 0])
        self.assertGreater(ended, 20)

    def test_undone_and_tried_things_leave_nothing_behind(self):
        for seed in range(500, 530):
            keeper, plain = made_keeper(seed, busy=True), made_keeper(seed, busy=True)
            dice = random.Random(seed)
            for _ in range(40):
                order = any_order(keeper.machine_now(), dice, ALL)
                if order[0] in ('undo', 'redo'):
                    continue
                with keeper.trial():
                    told = told_by(keeper, order)
                    told_by(keeper, any_order(keeper.machine_now(), dice, ALL))
                if told_by(keeper, order)[0] == 'done' and order[0] != 'go':
                    keeper.undo()
                    keeper.redo()
                self.assertEqual(told_by(plain, order), told)
                self.assertTrue(keeper == plain)
                self.assertEqual([keeper.orders, keeper.journal], [plain.orders, plain.journal])

    def test_a_machine_that_is_given_the_orders(self):
        for seed in range(600, 640):
            keeper = led_keeper(seed, 60)
            first = read_journal('\n'.join(keeper.journal.split('\n')[:-len(keeper.orders) or None])).machine_now()
            machine = Machine(first.model, knows=first.knows, roofs=first.roofs, unwritten=first.unwritten)
            for order in keeper.orders:
                getattr(machine, order[0])(*order[1:])
            self.assertTrue(machine == keeper.machine_now())

    def test_any_model_is_in_its_journal(self):
        for seed in range(100):
            model = Maker(seed).model()
            self.assertEqual(read_journal(Keeper(model).journal).machine_now().model, model)


if __name__ == '__main__':
    unittest.main()
