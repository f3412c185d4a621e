"""Texts of models once more: written word by word, and read line by line with a stack of open blocks."""

import re

NAME = '[a-z]{1,8}'
NUMBER = '(?:0|[1-9][0-9]{0,8})'
WORD = f'(?:{NUMBER}|{NAME})'
E = WORD
for _ in range(3):
    E = rf'(?:{WORD}|\({E} [-+*] {E}\))'

STATEMENTS = {
    'set': f'set ({NAME}) ({E})', 'send': f'send ({NAME}) ({E})', 'wait': f'wait ({NAME}) ({E})',
    'drop': f'drop ({NAME})', 'say': f'say ({E})', 'repeat': f'repeat ({E})', 'if': f'if ({E}) ([=<]) ({E})',
}
TOP = {'size': f'size ({NUMBER})', 'station': f'station ({NAME})',
       'line': f'line ({NAME}) ({NAME}) ({NAME}) ({NAME}) ({NUMBER})',
       'first': f'first ({NUMBER}) ({NAME}) ({NAME}) ({NUMBER})'}
BENEATH = {'cell': f'cell ({NAME}) ({NUMBER})', 'out': f'out ({NAME})', 'alarm': f'alarm ({NAME})', 'in': f'in ({NAME})'}


class Bad(Exception):
    """The line has not the form of one that can stand there."""


def expression(text):
    """The expression that a text of the right form tells."""
    if text[0] != '(':
        return int(text) if text[0].isdigit() else text
    depth = 0
    for at, sign in enumerate(text):
        depth += (sign == '(') - (sign == ')')
        if depth == 1 and text[at:at + 3] in (' + ', ' - ', ' * '):
            return (text[at + 1], expression(text[1:at]), expression(text[at + 3:-1]))
    raise AssertionError(text)


def plain(word):
    return int(word) if word.isdigit() else word


def frozen(block):
    return tuple([tuple([frozen(part) if isinstance(part, list) else part for part in one]) for one in block])


class Text:
    """A text of a model, line by line."""

    def __init__(self):
        self.size, self.stations, self.lines, self.first = None, [], [], []
        self.phase = ''
        self.open = []  # the open blocks of a handler, from the outside

    def line(self, row):
        blanks = len(row) - len(row.lstrip(' '))
        level, rest = blanks // 2, row[blanks:]
        word = rest.split(' ')[0]
        if blanks % 2 or self.waits_for_more() and level != len(self.open) + 1:
            raise Bad
        if level == 0:
            self.top(word, rest)
        elif level == 1:
            self.beneath(word, rest)
        else:
            self.statement(level, word, rest)

    def waits_for_more(self):
        """Whether an else has nothing beneath it so far."""
        return bool(self.open) and self.open[-1][1] == 'else' and not self.open[-1][0]

    def form(self, forms, word, rest):
        found = re.fullmatch(forms.get(word, '(?!)'), rest, re.ASCII)
        if not found:
            raise Bad
        return found.groups()

    def top(self, word, rest):
        told = tuple([plain(one) for one in self.form(TOP, word, rest)])
        allowed = {'': ('size',), 'size': ('station',), 'line': ('line', 'first'), 'first': ('first',)}
        if word not in allowed.get(self.phase, ('station', 'line', 'first')):
            raise Bad
        self.phase, self.open = word, []
        if word == 'size':
            self.size = told[0]
        elif word == 'station':
            self.stations.append({'name': told[0], 'cell': [], 'out': [], 'alarm': [], 'in': [], 'blocks': []})
        else:
            (self.lines if word == 'line' else self.first).append(told)

    def beneath(self, word, rest):
        told = tuple([plain(one) for one in self.form(BENEATH, word, rest)])
        kinds = ('station', 'cell', 'out', 'alarm', 'in')
        if self.phase not in kinds or kinds.index(word) < kinds.index(self.phase):
            raise Bad
        self.phase, self.open = word, []
        self.stations[-1][word].append(told if word == 'cell' else told[0])
        if word in ('alarm', 'in'):
            self.open = [([], word)]
            self.stations[-1]['blocks'].append(self.open[0][0])

    def statement(self, level, word, rest):
        if self.phase not in ('alarm', 'in'):
            raise Bad
        if rest == 'else':
            if len(self.open) < level or self.open[level - 1][1] != 'if':
                raise Bad
            block = []
            self.open[level - 2][0][-1][3] = block
            self.open = [*self.open[:level - 1], (block, 'else')]
            return
        told = self.form(STATEMENTS, word, rest)
        if len(self.open) < level - 1 or level > 4 or word in ('if', 'repeat') and level == 4:
            raise Bad
        self.open = self.open[:level - 1]
        block = []
        if word == 'if':
            one = ['if', (told[1], expression(told[0]), expression(told[2])), block, []]
        elif word == 'repeat':
            one = ['repeat', expression(told[0]), block]
        elif word == 'say':
            one = ['say', expression(told[0])]
        else:
            one = [word, told[0], *[expression(part) for part in told[1:]]]
        self.open[-1][0].append(one)
        if word in ('if', 'repeat'):
            self.open.append((block, word))

    def complete(self):
        return bool(self.stations) and not self.waits_for_more()

    def value(self):
        stations = [(one['name'], tuple(one['cell']), tuple(one['in']), tuple(one['out']), tuple(one['alarm']),
                     tuple([frozen(block) for block in one['blocks']])) for one in self.stations]
        return (self.size, tuple(stations), tuple(self.lines), tuple(self.first))


def read(text):
    """('bad', number of the line) or ('value', what the lines tell)."""
    told = Text()
    rows = text.split('\n')
    for number, row in enumerate(rows):
        try:
            told.line(row)
        except Bad:
            return ('bad', number)
    return ('value', told.value()) if told.complete() else ('bad', len(rows))


def written(expression):
    if isinstance(expression, tuple):
        return '(' + ' '.join([written(expression[1]), expression[0], written(expression[2])]) + ')'
    return str(expression)


def rows_of(block, level):
    for one in block:
        words = [one[0]]
        if one[0] == 'if':
            words += [written(one[1][1]), one[1][0], written(one[1][2])]
        elif one[0] != 'drop':
            words += [*one[1:len(one) - 1], written(one[-1])] if one[0] != 'repeat' else [written(one[1])]
        else:
            words += [one[1]]
        yield '  ' * level + ' '.join(words)
        if one[0] in ('if', 'repeat'):
            yield from rows_of(one[2], level + 1)
        if one[0] == 'if' and one[3]:
            yield '  ' * level + 'else'
            yield from rows_of(one[3], level + 1)


def write(model):
    """The text of a model."""
    size, stations, lines, first = model
    rows = ['size ' + str(size)]
    for name, cells, ins, outs, alarms, blocks in stations:
        rows.append('station ' + name)
        rows += ['  cell ' + cell + ' ' + str(worth) for cell, worth in cells]
        rows += ['  out ' + out for out in outs]
        for at, block in enumerate(blocks):
            rows.append('  alarm ' + alarms[at] if at < len(alarms) else '  in ' + ins[at - len(alarms)])
            rows += rows_of(block, 2)
    rows += [' '.join(['line', *[str(part) for part in line]]) for line in lines]
    rows += [' '.join(['first', *[str(part) for part in one]]) for one in first]
    return '\n'.join(rows)


JUNK = ['', ' ', '  ', 'else', '    else', '      else', '        else', '    if 1 = 1', '      if it < 2',
        '        if 1 = 1', '        repeat 2', '      repeat it', '    repeat 1', '        say 1', '          say 1', '      say 1',
        '    say 1', '  say 1', 'say 1', '    say (1 + (2 - (it * 3)))', '    say (1 + (2 - (it * (3 + 4))))',
        '    say 01', '    say 1234567890', '    say 123456789', '    set abcdefghi 1', '    set abcdefgh 1',
        '    say abcdefghi', '    say (1+2)', '    say (1  + 2)', '    say (1 / 2)', '    say ()', '    say (1 + 2',
        '    say 1 + 2', '    say -1', '    if 1 > 2', '    if 1 = 2 = 3', '    if 1 < 2 = 3', '    if (1 + 2) = (it * 2)',
        '    if 1=2', '    if 1', '    drop', '    drop k k', '    drop 1', '    set 1 p', '    set p', '    say', '    say ',
        '    else ', '    else x', '    wait k 1', '    send x it', '    sent x it', 'size 3', 'size', 'size 03', 'size x',
        'station new', 'station New', 'station', 'station a b', 'station line', '  station a', '  cell p 0', '  cell p',
        '  cell p 00', '  cell 1 p', '  out x', '  out 1', '  alarm k', '  in a', '  in it', 'in a', 'line s x u a 3',
        'line s x u a', 'line s x u a 3 3', 'line 0 x u a 3', 'first 3 s k 0', 'first s 3 k 0', 'first 3 s k',
        '  line s x u a 3', 'knows delays', '\u0661', 'size \u0663', 'size 3\r', '\tsay 1', '    say\u00a01', 'line s x u a 21']


def spoiled(text, dice):
    """A text with one or two things otherwise."""
    rows = text.split('\n')
    for _ in range(dice.choice((1, 1, 2))):
        at = dice.randrange(len(rows))
        kind = dice.randrange(10)
        if kind == 0:
            del rows[at]
        elif kind == 1:
            rows.insert(at, rows[at])
        elif kind in (2, 3, 4):
            rows.insert(dice.randint(0, len(rows)), dice.choice(JUNK))
        elif kind == 5:
            rows[at] = dice.choice((' ', '  ', '    ')) + rows[at]
        elif kind == 6:
            rows[at] = rows[at][dice.choice((1, 2)):]
        elif kind == 7:
            words = rows[at].split(' ')
            words[dice.randrange(len(words))] = dice.choice(('x', '0', '', 'it', '7', '007', 'abcdefghi', '1.2', 'else'))
            rows[at] = ' '.join(words)
        elif kind == 8:
            rows.insert(dice.randint(0, len(rows)), rows[at])
        else:
            rows[at] += dice.choice((' ', ' 1', '1', ' x', ')', '\n', '\n\n'))
        if not rows:
            return ''
    return '\n'.join(rows)
