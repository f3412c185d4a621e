"""Point 6: handlers."""

import random
import unittest

from farasnothing.errors import BadModel, BadWorth, BadWorths, NoHandler, NoStation
from farasnothing.handling import handled
from tests import oracle
from tests.checks import Checks
from tests.samples import MODEL, Maker, any_values


def doing(*program, worths=(0, 0), it=0, size=5, name='i'):
    """What a program does, as the handler of the in i, or of the alarm a."""
    blocks = (program, (), ()) if name == 'a' else ((), (), program)
    station = ('s', (('c', 0), ('d', 0)), ('i',), ('o', 'p'), ('a', 'b'), blocks)
    return handled((size, (station,), (), ()), 's', worths, name, it)


class Handling(Checks, unittest.TestCase):

    def test_the_example(self):
        told = [handled(MODEL, 'tap', (1,), 'a', 1), handled(MODEL, 'tap', (1,), 'a', 3)]
        self.assertEqual(told, [((2,), (), (('bell', 3),), ()), ((0,), (('o', 4),), (), ())])

    def test_nothing_is_done(self):
        self.assertEqual(doing(worths=(3, 4)), ((3, 4), (), (), ()))

    def test_statements(self):
        self.assertEqual(doing(('set', 'd', 'it'), it=3), ((0, 3), (), (), ()))
        self.assertEqual(doing(('send', 'p', 'c'), ('send', 'o', 2), ('send', 'p', 'it'), worths=(4, 0), it=1),
                         ((4, 0), (('p', 4), ('o', 2), ('p', 1)), (), ()))
        self.assertEqual(doing(('say', 'it'), ('say', 'c'), it=2), ((0, 0), (), (), (2, 0)))

    def test_what_is_done_last_to_alarms(self):
        self.assertEqual(doing(('wait', 'b', 1), ('wait', 'a', 3))[2], (('a', 3), ('b', 1)))
        self.assertEqual(doing(('wait', 'b', 1), ('wait', 'b', 0))[2], (('b', 0),))
        self.assertEqual(doing(('wait', 'b', 1), ('drop', 'b'))[2], (('b', None),))
        self.assertEqual(doing(('drop', 'b'), ('wait', 'b', 1))[2], (('b', 1),))
        self.assertEqual(doing(('drop', 'a'), name='a')[2], (('a', None),))

    def test_signs(self):
        for sign, worth in (('+', 1), ('-', 3), ('*', 3)):
            self.assertEqual(doing(('say', (sign, 'c', 'it')), worths=(2, 0), it=4)[3], (worth,), sign)
        self.assertEqual(doing(('say', ('+', ('*', ('-', 1, 3), 4), 'it')), it=4)[3], (1,))
        self.assertEqual(doing(('say', ('-', 0, 1)), size=2)[3], (1,))
        self.assertEqual(doing(('say', ('+', 5, 5)), size=6)[3], (4,))

    def test_signs_are_reckoned_modulo_the_size_at_each_sign(self):
        self.assertEqual(doing(('if', ('=', ('+', 3, 3), 1), (('say', 1),), (('say', 2),)))[3], (1,))
        self.assertEqual(doing(('repeat', ('+', 3, 3), (('say', 4),)))[3], (4,))
        self.assertEqual(doing(('wait', 'a', ('+', 4, 4)))[2], (('a', 3),))

    def test_ifs(self):
        def branch(sign, left, right):
            return doing(('if', (sign, left, right), (('say', 1),), (('say', 2),)), it=3)[3]
        self.assertEqual([branch('=', 'it', 3), branch('=', 'it', 2), branch('<', 2, 'it'), branch('<', 3, 'it'),
                          branch('<', 4, 'it')], [(1,), (2,), (1,), (2,), (2,)])

    def test_repeats(self):
        self.assertEqual(doing(('repeat', 'it', (('say', 1),)))[3], ())
        self.assertEqual(doing(('repeat', 'it', (('say', 1),)), it=4)[3], (1, 1, 1, 1))
        program = ('repeat', 'c', (('set', 'c', ('+', 'c', 1)), ('say', 'c')))
        self.assertEqual(doing(program, worths=(2, 0)), ((4, 0), (), (), (3, 4)))
        self.assertEqual(doing(('repeat', 2, (('repeat', 3, (('set', 'd', ('+', 'd', 1)),)),)))[0], (0, 1))

    def test_it_in_the_handler_of_an_alarm(self):
        self.assertEqual(doing(('say', 'it'), ('set', 'c', ('-', 'it', 1)), name='a'), ((4, 0), (), (), (0,)))

    def test_made_models(self):
        dice = random.Random(5)
        for seed in range(200):
            model = Maker(seed).model()
            for station in model[1]:
                for name in station[4] + station[2]:
                    worths = tuple([dice.randrange(model[0]) for _ in station[1]])
                    it = 0 if name in station[4] else dice.randrange(model[0])
                    self.assertEqual(handled(model, station[0], worths, name, it),
                                     oracle.done(model[0], station, worths, name, it))

    def test_named_arguments(self):
        told = handled(it=1, name='a', worths=(1,), station='tap', model=MODEL)
        self.assertEqual(told, ((2,), (), (('bell', 3),), ()))

    def test_wrong_arguments(self):
        for value in any_values():
            self.assertRaisesWith(BadModel, value, handled, value, value, value, value, value)
            if value != 'tap':
                self.assertRaisesWith(NoStation, value, handled, MODEL, value, value, value, value)
            if not (type(value) is tuple and len(value) == 1 and type(value[0]) is int and 0 <= value[0] < 5):
                self.assertRaisesWith(BadWorths, value, handled, MODEL, 'tap', value, value, value)
            if value != 'a':
                self.assertRaisesWith(NoHandler, value, handled, MODEL, 'tap', (0,), value, value)
            if not (type(value) is int and 0 <= value < 5):
                self.assertRaisesWith(BadWorth, value, handled, MODEL, 'tap', (0,), 'a', value)
            if not (type(value) is int and value == 0):
                self.assertRaisesWith(BadWorth, value, handled, MODEL, 'tap', (0,), 'bell', value)
        for name in ('n', 'o', 'b', 'it'):
            self.assertRaisesWith(NoHandler, name, handled, MODEL, 'tap', (0,), name, 0)
        for worths in ((), (0, 0), (5,), (-1,), (True,), [0]):
            self.assertRaisesWith(BadWorths, worths, handled, MODEL, 'tap', worths, 'a', 0)
        self.assertEqual(handled(MODEL, 'sink', (), 'b', 4), ((), (), (), (4,)))
        self.assertRaisesWith(BadWorth, 5, handled, MODEL, 'sink', (), 'b', 5)


if __name__ == '__main__':
    unittest.main()
