"""Point 19: texts of models and deeds."""

import random
import unittest

from farasnothing.errors import BadModel, BadValue
from farasnothing.models import is_model
from farasnothing.oneclock import Clock
from farasnothing.texts import show_deed, show_model
from tests.checks import Checks
from tests.samples import MODEL, RING, Maker, any_values, busy_model, nested, part_at, paths_of, replaced
from tests.wording import write

WHOLE = (6, (
    ('line', (('p', 0), ('q', 5)), ('in', 'a'), ('out', 'size'), ('k', 'alarm'), (
        (),
        (('set', 'p', 3), ('send', 'out', 'q'), ('wait', 'k', 'it'), ('drop', 'alarm'), ('say', 0)),
        (('if', ('=', 'p', 'it'), (('say', 1),), ()),
         ('if', ('<', ('+', 'p', 1), 2), (), (('say', 2),)),
         ('if', ('<', 0, 'q'), (('repeat', 'q', (('say', 3), ('drop', 'k'))), ('say', 4)), (
             ('if', ('=', 1, 1), (('say', 5),), (('repeat', 2, ()), ('send', 'size', 'q'))[1:]), ('say', 0)))),
        (('repeat', ('*', ('+', 'p', ('-', 'it', 'q')), 2), ()), ('say', ('-', ('*', 1, 2), ('+', 3, ('*', 'q', 5))))))),
    ('it', (), (), (), (), ()), ('else', (), ('i',), (), (), ((),))),
    (('line', 'out', 'line', 'in', 0), ('line', 'size', 'else', 'i', 20)),
    ((0, 'line', 'a', 5), (123456789, 'line', 'alarm', 0)))

TEXT = """size 6
station line
  cell p 0
  cell q 5
  out out
  out size
  alarm k
  alarm alarm
    set p 3
    send out q
    wait k it
    drop alarm
    say 0
  in in
    if p = it
      say 1
    if (p + 1) < 2
    else
      say 2
    if 0 < q
      repeat q
        say 3
        drop k
      say 4
    else
      if 1 = 1
        say 5
      else
        send size q
      say 0
  in a
    repeat ((p + (it - q)) * 2)
    say ((1 * 2) - (3 + (q * 5)))
station it
station else
  in i
line line out line in 0
line line size else i 20
first 0 line a 5
first 123456789 line alarm 0"""

DEED = ((2, 10), 'tap', 'a', 3, ((0, 7, (6, 0), 4), (11, 0, (123, 4), 0)), (4, 0, 5))


class Models(Checks, unittest.TestCase):

    def test_all_kinds_of_lines(self):
        self.assertTrue(is_model(WHOLE))
        self.assertEqual(show_model(WHOLE), TEXT)
        self.assertEqual(write(WHOLE), TEXT)

    def test_the_least_model(self):
        self.assertEqual(show_model((2, (('a', (), (), (), (), ()),), (), ())), 'size 2\nstation a')

    def test_blocks_three_deep(self):
        block = (('say', 1),)
        for _ in range(2):
            block = (('if', ('=', 0, 0), block, block), ('repeat', 1, block))
        model = (2, (('s', (), (), (), ('k',), (block,)),), (), ())
        self.assertTrue(is_model(model))
        rows = show_model(model).split('\n')
        self.assertEqual(rows, write(model).split('\n'))
        self.assertEqual(rows[:10], ['size 2', 'station s', '  alarm k', '    if 0 = 0', '      if 0 = 0', '        say 1',
                                     '      else', '        say 1', '      repeat 1', '        say 1'])

    def test_any_models(self):
        seen = {}
        for seed in range(400):
            model = Maker(seed).model() if seed % 2 else busy_model(seed)
            self.assertEqual(show_model(model), write(model))
            seen[show_model(model)] = model
        self.assertGreater(len(seen), 390)

    def test_unlike_models_have_unlike_texts(self):
        texts = {show_model(WHOLE): WHOLE}
        dice = random.Random(1)
        paths = list(paths_of(WHOLE))
        for path in paths:
            part = part_at(WHOLE, path)
            others = [1, 0, 'p', 'q', 'it', '+', '=', '<', '*', 'say', 'drop', (), ('+', 'p', 1), ('say', 1)]
            others += [part[:-1], part[1:], part[::-1], part * 2] if isinstance(part, tuple) else []
            others += [part_at(WHOLE, dice.choice(paths)) for _ in range(4)]
            for other in others:
                model = replaced(WHOLE, path, other)
                if is_model(model):
                    text = show_model(model)
                    self.assertEqual(texts.setdefault(text, model), model)
        self.assertGreater(len(texts), 150)

    def test_what_is_no_model(self):
        for value in any_values():
            self.assertRaisesWith(BadModel, value, show_model, value)
        for model in ([*MODEL], (7, *MODEL[1:]), (MODEL[0], list(MODEL[1]), *MODEL[2:]), replaced(MODEL, (0,), True)):
            self.assertRaisesWith(BadModel, model, show_model, model)
        self.assertEqual(show_model(model=RING), write(RING))


class Deeds(Checks, unittest.TestCase):

    def test_letters_and_sayings(self):
        for sends, said, text in (((), (), ''), (((3, 1, (9, 0), 2),), (), ' > 3 1 9.0 2'), ((), (0,), ' : 0'),
                                  (DEED[4], DEED[5], ' > 0 7 6.0 4 > 11 0 123.4 0 : 4 : 0 : 5')):
            self.assertEqual(show_deed((*DEED[:4], sends, said)), '2.10 tap a 3' + text)
        self.assertEqual(show_deed(((0, 0), 'it', 'abcdefgh', 0, (), ())), '0.0 it abcdefgh 0')
        self.assertEqual(show_deed(deed=DEED), show_deed(DEED))

    def test_deeds_of_a_clock(self):
        clock = Clock(MODEL)
        told = [show_deed(deed) for deed in clock.run(9)]
        self.assertEqual(told, ['0.0 tap a 1', '2.0 tap a 3 > 0 0 6.0 4', '3.0 tap bell 0 > 0 1 7.0 1',
                                '6.0 sink b 4 : 4', '7.0 sink b 1 : 1'])

    def test_whatever_they_stand_for(self):
        self.assertEqual(show_deed(((10 ** 12, 3), 'no', 'such', 99, ((77, 5, (1, 1), 88),), (7,))),
                         '1000000000000.3 no such 99 > 77 5 1.1 88 : 7')

    def test_what_is_no_deed(self):
        for value in any_values():
            self.assertRaisesWith(BadValue, value, show_deed, value)
        for deed in (DEED[:5], (*DEED, ()), list(DEED)):
            self.assertRaisesWith(BadValue, deed, show_deed, deed)

    def test_each_part_otherwise(self):
        names, numbers = ((1,), (2,)), ((3,), (0, 0), (0, 1), (5, 0), (5, 1), (5, 2))
        letters = [(4, at, *path) for at in (0, 1) for path in ((0,), (1,), (2, 0), (2, 1), (3,))]
        values = [*any_values(), 'abcdefghi', '', 'Tap', -1, True, nested(1, 30, list)]
        for path in paths_of(DEED):
            for value in values:
                right = path in names and value in ('a', 'tap', 'it', 'delays')
                right = right or path in (*numbers, *letters) and type(value) is int and value >= 0
                right = right or path in ((4,), (5,)) and value == () and type(value) is tuple
                right = right or path == (5,) and isinstance(value, tuple) and all([type(one) is int and one >= 0 for one in value])
                right = right or path in ((0,), (4, 0, 2), (4, 1, 2)) and value in ((1, 2), (0, 0)) \
                    and [type(one) for one in value] == [int, int]
                deed = replaced(DEED, path, value)
                if not right:
                    self.assertRaisesWith(BadValue, deed, show_deed, deed)
                elif type(value) is not int or value < 10 ** 9:
                    self.assertIsInstance(show_deed(deed), str)


if __name__ == '__main__':
    unittest.main()
