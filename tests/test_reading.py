"""Point 19: models that are read from texts."""

import random
import unittest

from farasnothing.errors import BadModel, BadText
from farasnothing.models import is_model
from farasnothing.reading import read_model
from farasnothing.texts import show_model
from tests.checks import Checks
from tests.samples import MODEL, RING, Maker, any_values, busy_model
from tests.test_texts import TEXT, WHOLE
from tests.wording import JUNK, read, spoiled

BLOCK = ['size 2', 'station s', '  cell p 0', '  out x', '  alarm k', '    if p = 1', '      repeat 1', '        say p',
         '    else', '      say 0', '  in a', '    send x (p + (1 - (it * 0)))', 'line s x s a 3', 'first 0 s k 0']


class Reading(Checks, unittest.TestCase):

    def assertBad(self, text, line):
        with self.assertRaises(BadText) as caught:
            read_model(text)
        self.assertEqual(caught.exception.line, line, text)

    def assertSame(self, text):
        """The text tells what it tells by the other reader."""
        kind, told = read(text)
        if kind == 'bad':
            self.assertBad(text, told)
        elif is_model(told):
            self.assertEqual(read_model(text), told)
        else:
            self.assertRaisesNaming(BadModel, told, read_model, text)
        return kind if kind == 'bad' or is_model(told) else 'no model'

    def test_what_is_written_is_read(self):
        for model in (WHOLE, MODEL, RING, (2, (('a', (), (), (), (), ()),), (), ())):
            self.assertEqual(read_model(show_model(model)), model)
        self.assertEqual(read_model(text=TEXT), WHOLE)
        for seed in range(600):
            model = Maker(seed).model() if seed % 2 else busy_model(seed)
            self.assertEqual(read_model(show_model(model)), model)

    def test_spoiled_texts(self):
        kinds = {'bad': 0, 'value': 0, 'no model': 0}
        for seed in range(700):
            dice = random.Random(seed)
            model = WHOLE if seed % 3 == 0 else Maker(seed).model() if seed % 3 == 1 else busy_model(seed)
            for _ in range(8):
                kinds[self.assertSame(spoiled(show_model(model), dice))] += 1
        self.assertGreater(min(kinds.values()), 200)

    def test_each_line_at_each_place(self):
        """Lines set in and taken the place of others, left out, twice, in another sequence."""
        kinds = {'bad': 0, 'value': 0, 'no model': 0}
        for text in (TEXT, '\n'.join(BLOCK)):
            rows = text.split('\n')
            for at in range(len(rows) + 1):
                for row in JUNK:
                    kinds[self.assertSame('\n'.join([*rows[:at], row, *rows[at:]]))] += 1
                    kinds[self.assertSame('\n'.join([*rows[:at], row, *rows[at + 1:]]))] += 1
                for other in range(len(rows)):
                    kinds[self.assertSame('\n'.join([*rows[:at], rows[other], *rows[at:]]))] += 1
                self.assertSame('\n'.join([*rows[:at], *rows[at + 1:]]))
                self.assertSame('\n'.join(rows[:at]))
        self.assertGreater(min(kinds.values()), 100)

    def test_no_string(self):
        for value in any_values():
            if not isinstance(value, str):
                self.assertRaisesWith(BadText, 0, read_model, value)
            else:
                self.assertBad(value, 0)

    def test_lines_that_are_missing(self):
        self.assertBad('', 0)
        self.assertBad('size 2', 1)
        self.assertBad('size 2\n', 1)
        self.assertBad('size 2\nstation s\n', 2)
        self.assertBad('station s', 0)
        self.assertBad('\n'.join(BLOCK[:9]), 9)
        self.assertBad('\n'.join([*BLOCK[:9], *BLOCK[10:]]), 9)
        self.assertEqual(read_model('size 2\nstation s'), (2, (('s', (), (), (), (), ()),), (), ()))

    def test_line_feeds_and_other_ends_of_lines(self):
        for end, line in (('\n', 14), ('\n\n', 14), ('\r', 13), ('\r\n', 13), (' ', 13), ('\x0b', 13)):
            self.assertBad('\n'.join(BLOCK) + end, line)
        self.assertBad('\n' + '\n'.join(BLOCK), 0)
        self.assertBad('\r\n'.join(BLOCK), 0)

    def test_blanks(self):
        for at, row in enumerate(BLOCK):
            for other in (' ' + row, '  ' + row, row[1:], row[2:], row + ' ', row.replace(' ', '  '), row.upper(),
                          row.replace(' ', '\t')):
                if other == row or at == 7 and other == row[2:]:
                    continue
                rows = [*BLOCK[:at], other, *BLOCK[at + 1:]]
                if read('\n'.join(rows))[0] == 'bad':
                    self.assertBad('\n'.join(rows), read('\n'.join(rows))[1])
                    self.assertIn(read('\n'.join(rows))[1], (at, at + 1))

    def test_numbers_and_names(self):
        for text, line in (('size 02', 0), ('size 1234567890', 0), ('size -2', 0), ('size 2.0', 0), ('size two', 0),
                           ('size', 0), ('size 2 2', 0), ('Size 2', 0), ('size \u0662', 0), ('size \u00b2', 0)):
            self.assertBad('\n'.join([text, *BLOCK[1:]]), line)
        for name in ('abcdefghi', 'S', '', 's1', 's s', '\u00e9', '1', '(s)'):
            self.assertBad('\n'.join([BLOCK[0], 'station ' + name, *BLOCK[2:]]), 1)
        told = read_model('size 2\nstation s\n  in a\nfirst 123456789 s a 0')
        self.assertEqual(told[3], ((123456789, 's', 'a', 0),))

    def test_else(self):
        for rows, line in ((['    else'], 5), (['    say 0', '    else', '      say 1'], 6),
                           (['    if 1 = 1', '    else'], 7), (['    if 1 = 1', '    else', '    say 1'], 7),
                           (['    if 1 = 1', '    else', '    else'], 7),
                           (['    if 1 = 1', '    else', '      say 1', '    else', '      say 1'], 8),
                           (['    repeat 1', '    else', '      say 1'], 6), (['    if 1 = 1', '      else'], 6),
                           (['    if 1 = 1', '    say 1', '    else', '      say 1'], 7),
                           (['    if 1 = 1', '  else', '      say 1'], 6), (['    if 1 = 1', '    else x'], 6)):
            self.assertBad('\n'.join([*BLOCK[:5], *rows]), line)
        told = read_model('\n'.join([*BLOCK[:5], '    if 1 = p', '    else', '      say 1']))
        self.assertEqual(told[1][0][5], ((('if', ('=', 1, 'p'), (), (('say', 1),)),),))

    def test_depths(self):
        deep = [*BLOCK[:5], '    if 1 = 1', '      repeat 1']
        self.assertEqual(read_model('\n'.join([*deep, '        say 1']))[0], 2)
        for row in ('        if 1 = 1', '        repeat 1', '          say 1', '        else', '         say 1'):
            self.assertBad('\n'.join([*deep, row]), 7)
        for row in ('      say 1', '    say 1'):
            self.assertEqual(read_model('\n'.join([*deep, row]))[0], 2)

    def test_brackets(self):
        three, four = '(1 + (1 - (p * p)))', '(1 + (1 - (p * (p + 1))))'
        for told, line in ((three, None), (four, 5), ('(' + three + ' * 1)', 5), ('(1 + 1', 5), ('(1 + 1))', 5), ('(1)', 5),
                           ('((1 + p) - (p * 1))', None), ('(1 +1)', 5), ('(1+ 1)', 5), ('( 1 + 1)', 5), ('(1 + 1 )', 5),
                           ('(1 = 1)', 5), ('(1 ** 1)', 5), ('(1 + )', 5), ('( + 1)', 5), ('(1 + 1)(1 + 1)', 5),
                           ('1 + 1', 5), ('+', 5), ('(1 +x2)', 5), ('(1(+ 2)', 5),
                           ('(1)+ 2)', 5), ('(1 + 2(', 5), ('(1 + 2 ', 5), ('((1 + 2( + 3)', 5), ('(1 +  2)', 5), ('()', 5), ('(', 5), (')', 5), ('[1 + 1]', 5)):
            text = '\n'.join([*BLOCK[:5], '    say ' + told])
            if line is None:
                self.assertEqual(show_model(read_model(text)), text)
            else:
                self.assertBad(text, line)
        for told, line in (('(p + 1) = (1 - p)', None), ('p < 0', None), ('p > 0', 5), ('p', 5), ('p = ', 5), (' = p', 5),
                           ('p == 0', 5), ('p = 0 = 1', 5), ('p < 0 < 1', 5), ('p = 0 < 1', 5), ('(p = 0)', 5),
                           (four + ' = 1', 5), ('1 = ' + four, 5), (three + ' < ' + three, None), ('p  = 0', 5)):
            text = '\n'.join([*BLOCK[:5], '    if ' + told])
            if line is None:
                self.assertEqual(show_model(read_model(text)), text)
            else:
                self.assertBad(text, line)

    def test_lines_behind_first_and_out_of_sequence(self):
        for row in ('line s x s a 3', 'station t', 'size 2', '  cell q 0', '    say 1', 'knows delays', '  in b'):
            self.assertBad('\n'.join([*BLOCK, row]), 14)
        for row in ('  cell q 0', '  out y', '  alarm l', 'size 2', 'first 0 s k 0'):
            rows = [*BLOCK[:12], row, *BLOCK[12:]]
            self.assertBad('\n'.join(rows), 13 if row[:5] == 'first' else 12)

    def test_of_form_but_no_model(self):
        """How many there are, which numbers and which names: that is for BadModel."""
        many = '\n'.join(['    say 0'] * 7)
        for old, new in (('size 2', 'size 7'), ('size 2', 'size 0'), ('  cell p 0', '  cell p 2'), ('  cell p 0', '  cell it 0'),
                         ('        say p', '        say q'), ('      say 0', '      say 2'), ('  out x', '  out x\n  out x'),
                         ('  alarm k', '  alarm k\n' + many), ('line s x s a 3', 'line s x s a 21'),
                         ('line s x s a 3', 'line s x t a 3'), ('first 0 s k 0', 'first 0 s k 1'),
                         ('first 0 s k 0', 'first 0 s k 0\nfirst 1 s k 0'), ('station s', 'station s\nstation s'),
                         ('  cell p 0', '\n'.join(['  cell ' + name + ' 0' for name in 'pqrt'])),
                         ('    send x (p + (1 - (it * 0)))', '    send y 0'), ('      repeat 1', '      repeat it\n        drop x')):
            text = '\n'.join(BLOCK).replace(old, new)
            self.assertNotEqual(text, '\n'.join(BLOCK))
            self.assertEqual(self.assertSame(text), 'no model', text)
        self.assertEqual(read('\n'.join(BLOCK)), ('value', read_model('\n'.join(BLOCK))))


if __name__ == '__main__':
    unittest.main()
