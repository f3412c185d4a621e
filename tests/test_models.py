"""Point 5: models."""

import unittest

from farasnothing.errors import BadModel, NoPort, NoStation
from farasnothing.models import is_model, line_into, line_out_of
from tests.checks import Checks
from tests.samples import MODEL, RING, Maker, any_values, part_at, paths_of, replaced

FULL_STATION = ('full', (('ca', 0), ('cb', 5), ('cc', 3)), ('ia', 'ib', 'ic'), ('oa', 'ob', 'oc'), ('aa', 'ab'),
                ((), (), (), (), ()))


def with_program(*program, size=4):
    """A model of one station with the cell c, the in i, the out o, the alarm a and this program."""
    station = ('s', (('c', 0),), ('i',), ('o',), ('a',), ((), program))
    return (size, (station,), (), ())


def signs(deep):
    """An expression with so many signs within one another."""
    return 1 if not deep else ('+', 'it', signs(deep - 1))


def blocks(deep, last):
    """A statement with so many statements around it."""
    return last if not deep else ('repeat', 1, (blocks(deep - 1, last),))


class Models(Checks, unittest.TestCase):

    def assertModel(self, value):
        self.assertIs(is_model(value), True, value)

    def assertNone(self, value):
        self.assertIs(is_model(value), False, value)

    def test_models(self):
        for model in (MODEL, RING, (6, (FULL_STATION,), (), ()), with_program()):
            self.assertModel(model)
        for seed in range(60):
            self.assertModel(Maker(seed).model())

    def test_sizes(self):
        for size in (2, 3, 4, 5, 6):
            self.assertModel((size, (RING[1][0],), (), ()))
        for size in (1, 7, 0, -2, True, None, '3', (3,)):
            self.assertNone((size, (RING[1][0],), (), ()))

    def test_names(self):
        for name in ('a', 'abcdefgh', 'it', 'z'):
            self.assertModel(replaced(with_program(), (1, 0, 0), name))
        for name in ('', 'abcdefghi', 'A', 'a1', 'a b', '\u00e9', 'a\n', 0, None, ('a',), ['a']):
            self.assertNone(replaced(with_program(), (1, 0, 0), name))
        for path in ((1, 0, 1, 0, 0), (1, 0, 2, 0), (1, 0, 3, 0), (1, 0, 4, 0)):
            self.assertModel(replaced(with_program(), path, 'abcdefgh'))
            for name in ('it', '', 'abcdefghi', 'B', 7, True, None, ['b'], {'b': 1}):
                self.assertNone(replaced(with_program(), path, name))

    def test_names_of_a_station_are_different(self):
        full = (6, (FULL_STATION,), (), ())
        paths = [(1, 0, 1, 0, 0), (1, 0, 1, 1, 0), (1, 0, 2, 0), (1, 0, 2, 1), (1, 0, 3, 0), (1, 0, 3, 2), (1, 0, 4, 0),
                 (1, 0, 4, 1)]
        for one in paths:
            for other in paths:
                if one != other:
                    self.assertNone(replaced(full, one, part_at(full, other)))
        self.assertModel(replaced(full, (1, 0, 1, 0, 0), 'full'))

    def test_stations(self):
        self.assertNone((3, (), (), ()))
        self.assertNone((3, (RING[1][0], RING[1][0]), (), ()))
        self.assertModel((3, (RING[1][0], RING[1][1]), (), ()))
        self.assertNone((3, [RING[1][0]], (), ()))

    def test_most_of_each(self):
        full = (6, (FULL_STATION,), (), ())
        self.assertNone(replaced(full, (1, 0, 1), FULL_STATION[1] + (('cd', 0),)))
        self.assertNone(replaced(full, (1, 0, 3), ('oa', 'ob', 'oc', 'od')))
        five = ((), (), (), (), (), ())
        self.assertNone(replaced(replaced(full, (1, 0, 2), ('ia', 'ib', 'ic', 'id')), (1, 0, 5), five))
        self.assertNone(replaced(replaced(full, (1, 0, 4), ('aa', 'ab', 'ac')), (1, 0, 5), five))
        self.assertNone(replaced(full, (1, 0, 5), ((), (), (), ())))
        self.assertNone(replaced(full, (1, 0, 5), five))

    def test_worths(self):
        for worth in (0, 3):
            self.assertModel(replaced(with_program(), (1, 0, 1, 0, 1), worth))
        for worth in (4, -1, True, None, '1', (0,)):
            self.assertNone(replaced(with_program(), (1, 0, 1, 0, 1), worth))

    def test_statements(self):
        right = [
            ('set', 'c', 1), ('set', 'c', 'it'), ('set', 'c', 'c'), ('send', 'o', 'c'), ('wait', 'a', 3), ('drop', 'a'),
            ('say', 'it'), ('if', ('=', 1, 'c'), (), ()), ('if', ('<', 'it', 2), (('say', 1),), (('drop', 'a'),)),
            ('repeat', 'it', ()), ('repeat', 0, (('say', 1),)), ('say', ('*', 'c', ('-', 'it', 1)))]
        wrong = [
            ('set', 'a', 1), ('set', 'i', 1), ('set', 'it', 1), ('set', 'c', 4), ('set', 'c', -1), ('set', 'c', True),
            ('set', 'c', 'o'), ('set', 'c'), ('set', 'c', 1, 1), ('send', 'c', 1), ('send', 'i', 1), ('send', 'o'),
            ('wait', 'o', 1), ('wait', 'a', None), ('wait', 'a'), ('drop', 'c'), ('drop',), ('drop', 'a', 1), ('say',),
            ('say', 'a'), ('say', 'i'), ('say', ()), ('say', [1]), ('say', 1, 1), ('if', ('=', 1, 1), ()),
            ('if', ('=', 1, 1), (), (), ()), ('if', ('>', 1, 1), (), ()), ('if', ('=', 1), (), ()),
            ('if', ['=', 1, 1], (), ()), ('if', ('=', 1, 'o'), (), ()), ('if', ('=', 'o', 1), (), ()),
            ('if', ('=', 1, 1), [], ()), ('if', ('=', 1, 1), (), None), ('if', ('=', 1, 1), (1,), ()),
            ('if', ('=', 1, 1), (), (1,)), ('if', ('+', 1, 1), (), ()), ('repeat', 'o', ()), ('repeat', 1),
            ('repeat', 1, (), ()), ('repeat', 1, ('say', 1)), ('repeat', 1, [('say', 1)]), ('other', 1), (), ('say'),
            None, ['say', 1], (['say'], 1), (1, 1), ('say', ('/', 1, 1)), ('say', ('+', 1)), ('say', ('+', 1, 1, 1)),
            ('say', ['+', 1, 1]), ('say', ('+', 1, 4)), ('say', ('-', 'o', 1)), ('say', (('+',), 1, 1))]
        for statement in right:
            self.assertModel(with_program(statement))
        for statement in wrong:
            self.assertNone(with_program(statement))

    def test_lengths_of_programs(self):
        say = ('say', 1)
        self.assertModel(with_program(*[say] * 6))
        self.assertNone(with_program(*[say] * 7))
        for statement in (('repeat', 1, (say,) * 6), ('if', ('=', 1, 1), (say,) * 6, (say,) * 6)):
            self.assertModel(with_program(statement))
        for statement in (('repeat', 1, (say,) * 7), ('if', ('=', 1, 1), (say,) * 7, ()),
                          ('if', ('=', 1, 1), (), (say,) * 7)):
            self.assertNone(with_program(statement))

    def test_depths(self):
        say, fork, again = ('say', 1), ('if', ('=', 1, 1), (), ()), ('repeat', 1, ())
        self.assertModel(with_program(blocks(2, say)))
        for last in (fork, again):
            self.assertModel(with_program(blocks(0, last)))
            self.assertModel(with_program(blocks(1, last)))
            self.assertNone(with_program(blocks(2, last)))
            self.assertNone(with_program(('if', ('=', 1, 1), (), (blocks(1, last),))))
            self.assertNone(with_program(('if', ('=', 1, 1), (blocks(1, last),), ())))
            self.assertModel(with_program(('if', ('=', 1, 1), (last,), (last,))))

    def test_signs(self):
        self.assertModel(with_program(('say', signs(3))))
        self.assertNone(with_program(('say', signs(4))))
        self.assertModel(with_program(('say', ('-', signs(2), signs(2)))))
        self.assertNone(with_program(('say', ('*', signs(3), 1))))
        self.assertModel(with_program(('if', ('<', signs(3), signs(3)), (), ())))
        self.assertNone(with_program(('if', ('<', 1, signs(4)), (), ())))
        self.assertNone(with_program(('repeat', signs(4), ())))

    def test_lines(self):
        def ring(*lines):
            return (2, RING[1], lines, ())
        there, back = RING[2]
        for delay in (0, 20):
            self.assertModel(ring(there[:4] + (delay,), back))
        for delay in (-1, 21, True, None, '0'):
            self.assertNone(ring(there[:4] + (delay,), back))
        self.assertModel(ring(('a', 'y', 'a', 'x', 0)))
        self.assertNone(ring(there, ('a', 'y', 'a', 'x', 3)))
        self.assertNone(ring(there, ('b', 'y', 'b', 'x', 3)))
        for at, wrong in ((0, 'c'), (1, 'x'), (1, 'q'), (2, 'c'), (3, 'y'), (3, 'k'), (3, None), (0, None), (2, ['a'])):
            self.assertNone(ring(there[:at] + (wrong,) + there[at + 1:]))
        for line in ((), there[:4], there + (1,), list(there), None):
            self.assertNone(ring(line))
        self.assertNone((2, RING[1], [there], ()))

    def test_first(self):
        def tap(*first):
            return MODEL[:3] + (first,)
        self.assertModel(tap((10 ** 30, 'tap', 'a', 4), (0, 'tap', 'a', 0), (0, 'tap', 'a', 0)))
        self.assertModel(tap((3, 'tap', 'bell', 0)))
        self.assertModel((2, RING[1], RING[2][:1], ((0, 'a', 'x', 1),)))
        for wrong in ((-1, 'tap', 'a', 1), (True, 'tap', 'a', 1), ('0', 'tap', 'a', 1), (0, 'top', 'a', 1),
                      (0, 'tap', 'o', 1), (0, 'tap', 'n', 1), (0, 'tap', 'q', 1), (0, 'sink', 'b', 1),
                      (0, 'tap', 'a', 5), (0, 'tap', 'a', -1), (0, 'tap', 'a', True), (0, 'tap', 'bell', 1),
                      (0, 'tap', 'bell', False), (0, 'tap', 'a'), [0, 'tap', 'a', 1], (0, 'tap', 'a', 1, 1), None,
                      (0, ['tap'], 'a', 1), (0, 'tap', {}, 1)):
            self.assertNone(tap(wrong))
        self.assertNone(tap((3, 'tap', 'bell', 0), (5, 'tap', 'bell', 0)))
        self.assertNone(MODEL[:3] + ([],))

    def test_any_value_in_any_place(self):
        for path in paths_of(MODEL):
            for value in any_values():
                told = is_model(replaced(MODEL, path, value))
                self.assertIs(type(told), bool)
                if isinstance(value, (list, dict)) or value is None or value is True:
                    self.assertFalse(told, (path, value))

    def test_lists_are_no_tuples(self):
        for path in paths_of(MODEL):
            if isinstance(part_at(MODEL, path), tuple):
                self.assertNone(replaced(MODEL, path, list(part_at(MODEL, path))))

    def test_lines_by_their_ends(self):
        self.assertEqual(line_into(MODEL, 'sink', 'b'), 0)
        self.assertIsNone(line_into(MODEL, 'tap', 'a'))
        self.assertEqual(line_out_of(MODEL, 'tap', 'o'), 0)
        self.assertEqual([line_into(RING, 'a', 'x'), line_into(RING, 'b', 'x')], [1, 0])
        self.assertEqual([line_out_of(RING, 'a', 'y'), line_out_of(RING, 'b', 'y')], [0, 1])
        self.assertIsNone(line_out_of(with_program(), 's', 'o'))
        self.assertEqual(line_into(station='sink', name='b', model=MODEL), 0)
        self.assertEqual(line_out_of(station='tap', name='o', model=MODEL), 0)

    def test_lines_by_their_ends_in_made_models(self):
        for seed in range(30):
            model = Maker(seed).model()
            for station in model[1]:
                for name in station[2]:
                    into = [at for at, line in enumerate(model[2]) if line[2:4] == (station[0], name)]
                    self.assertEqual(line_into(model, station[0], name), into[0] if into else None)
                for name in station[3]:
                    out = [at for at, line in enumerate(model[2]) if line[:2] == (station[0], name)]
                    self.assertEqual(line_out_of(model, station[0], name), out[0] if out else None)

    def test_wrong_arguments(self):
        for act, station, name in ((line_into, 'sink', 'b'), (line_out_of, 'tap', 'o')):
            for value in any_values():
                self.assertRaisesWith(BadModel, value, act, value, value, value)
                if value != 'tap':
                    self.assertRaisesWith(NoStation, value, act, MODEL, value, value)
                if value not in ('a', 'b', 'o'):
                    self.assertRaisesWith(NoPort, value, act, MODEL, station, value)
        for name in ('n', 'o', 'bell', 'tap', 'b'):
            self.assertRaisesWith(NoPort, name, line_into, MODEL, 'tap', name)
        for name in ('n', 'a', 'bell', 'tap', 'b'):
            self.assertRaisesWith(NoPort, name, line_out_of, MODEL, 'tap', name)


if __name__ == '__main__':
    unittest.main()
