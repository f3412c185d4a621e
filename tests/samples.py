"""Models and values for the tests: those of the document, made ones, and values of any kind."""

import random

TAP = ('tap', (('n', 0),), ('a',), ('o',), ('bell',), (
    (('send', 'o', 1),),
    (('set', 'n', ('+', 'n', 'it')),
     ('if', ('<', 2, 'n'), (('send', 'o', 'n'), ('set', 'n', 0)), (('wait', 'bell', 3),)))))
SINK = ('sink', (), ('b',), (), (), ((('say', 'it'),),))
MODEL = (5, (TAP, SINK), (('tap', 'o', 'sink', 'b', 4),), ((0, 'tap', 'a', 1), (2, 'tap', 'a', 3)))

RING = (2, (('a', (), ('x',), ('y',), (), ((),)), ('b', (), ('x',), ('y',), ('k',), ((), ()))),
        (('a', 'y', 'b', 'x', 2), ('b', 'y', 'a', 'x', 3)), ((9, 'b', 'k', 0),))


def nested(value, depth, kind):
    """A value so many tuples, lists or dicts deep."""
    for _ in range(depth):
        value = (value,) if kind is tuple else [value] if kind is list else {'k': value}
    return value


def any_values():
    """Values of all kinds, none of which is a right one for anything but by its kind."""
    return [
        0, 1, 2, -1, 7, 10 ** 30, -10 ** 5000, True, False, None, '', 'a', 'tap', 'it', 'no such', 'A', 'abcdefghi',
        '\u00e9', 'delays', (), (1,), (1, 2), (0, 0), [0, 0], (True, 0), (0, True), (0, -1), (0, 0, 0),
        [], {}, {'a': 1}, {0: (1, [2])}, [(0, 0)], ((0, 0),), ('way', ()), ('no', ()), ['way', ()],
        (None, None), ((), ()), ([], []), ({}, {}), ('tap',), ('tap', 'tap'), ['tap'], (('tap',),), ({'tap': 1},),
        nested(0, 30, tuple), nested(0, 29, list), nested('tap', 29, dict), (nested(0, 20, list), nested((), 20, dict)),
    ]


def replaced(value, path, part):
    """A tuple with another part at the end of a path of indexes."""
    if not path:
        return part
    at = path[0]
    return value[:at] + (replaced(value[at], path[1:], part),) + value[at + 1:]


def paths_of(value):
    """The paths to all parts of nested tuples, the empty one too."""
    yield ()
    if isinstance(value, tuple):
        for at, part in enumerate(value):
            for path in paths_of(part):
                yield (at, *path)


def part_at(value, path):
    """The part at the end of a path."""
    for at in path:
        value = value[at]
    return value


class Maker:
    """Makes models by a seed."""

    def __init__(self, seed):
        self.dice = random.Random(seed)

    def names(self, letters, most):
        return tuple(self.dice.sample(letters, self.dice.randint(0, most)))

    def expression(self, deep=3):
        kinds = ['worth', 'it'] + (['cell'] * 2 if self.cells else []) + (['sign'] * 2 if deep else [])
        kind = self.dice.choice(kinds)
        if kind == 'worth':
            return self.dice.randrange(self.size)
        if kind == 'it':
            return 'it'
        if kind == 'cell':
            return self.dice.choice(self.cells)
        return (self.dice.choice('+-*'), self.expression(deep - 1), self.expression(deep - 1))

    def statement(self, depth):
        kinds = ['say']
        kinds += ['set'] * 2 if self.cells else []
        kinds += ['send'] * 4 if self.outs else []
        kinds += ['wait', 'wait', 'drop'] if self.alarms else []
        kinds += ['if', 'if', 'repeat'] if depth < 3 else []
        kind = self.dice.choice(kinds)
        if kind == 'say':
            return ('say', self.expression())
        if kind == 'set':
            return ('set', self.dice.choice(self.cells), self.expression())
        if kind == 'send':
            return ('send', self.dice.choice(self.outs), self.expression())
        if kind == 'wait':
            return ('wait', self.dice.choice(self.alarms), self.expression())
        if kind == 'drop':
            return ('drop', self.dice.choice(self.alarms))
        if kind == 'repeat':
            return ('repeat', self.expression(1), self.block(depth + 1, 1))
        condition = (self.dice.choice('=<'), self.expression(1), self.expression(1))
        return ('if', condition, self.block(depth + 1, 2), self.block(depth + 1, 1))

    def block(self, depth=1, most=3):
        return tuple([self.statement(depth) for _ in range(self.dice.randint(0, most))])

    def program(self):
        """A program, most of them with a letter, so that more happens."""
        block = self.block()
        if self.outs and self.dice.random() < 0.6:
            block = (('send', self.dice.choice(self.outs), self.expression()), *block)
        return block

    def station(self, name):
        self.cells = self.names('pqr', 2)
        ins = self.names('abc', 3)
        self.outs = self.names('xyz', 3)
        self.alarms = self.names(['k', 'l'], 2)
        cells = tuple([(cell, self.dice.randrange(self.size)) for cell in self.cells])
        blocks = tuple([self.program() for _ in range(len(self.alarms) + len(ins))])
        return (name, cells, ins, self.outs, self.alarms, blocks)

    def lines(self, stations, delays):
        outs = [(station[0], out) for station in stations for out in station[3]]
        ins = [(station[0], port) for station in stations for port in station[2]]
        self.dice.shuffle(outs)
        self.dice.shuffle(ins)
        many = min(len(outs), len(ins), 8)
        many = self.dice.randint(max(0, many - 2), many)
        return tuple([out + port + (self.dice.choice(delays),) for out, port in zip(outs[:many], ins[:many])])

    def first(self, stations, lines):
        told = [(line[2], line[3]) for line in lines]
        free = [(station[0], port) for station in stations for port in station[2] if (station[0], port) not in told]
        items = [(self.dice.randint(0, 9), *self.dice.choice(free), self.dice.randrange(self.size))
                 for _ in range(self.dice.randint(0, 6)) if free]
        for station in stations:
            items += [(self.dice.randint(0, 9), station[0], alarm, 0) for alarm in station[4]
                      if self.dice.random() < 0.7]
        self.dice.shuffle(items)
        return tuple(items)

    def model(self, delays=(0, 0, 1, 2, 3, 7), most=4):
        self.size = self.dice.randint(2, 4)
        stations = tuple([self.station(name) for name in ['s', 'u', 'o', 'w'][:self.dice.randint(1, most)]])
        lines = self.lines(stations, delays)
        return (self.size, stations, lines, self.first(stations, lines))

    def changes(self, model, turns=2):
        """Changes of the model, in any sequence."""
        told = {}
        for _ in range(self.dice.randint(0, 5) if model[2] else 0):
            stamp = (self.dice.randint(0, 12), self.dice.randint(0, turns))
            told[self.dice.randrange(len(model[2])), stamp] = self.dice.choice((0, 0, 1, 2, 5, 20))
        changes = [(stamp, line, delay) for (line, stamp), delay in told.items()]
        self.dice.shuffle(changes)
        return tuple(changes)


def busy_model(seed, delays=(0, 1, 2, 3), most=4):
    """A model in which letters go from station to station, each time with a lesser worth."""
    dice = random.Random(seed)
    names = ['s', 'u', 'o', 'w'][:dice.randint(1, most)]
    outs = [(name, out) for name in names for out in 'xyz']
    ins = [(name, port) for name in names for port in 'abc']
    dice.shuffle(outs)
    dice.shuffle(ins)
    many = min(dice.randint(1, 8), len(ins) - 1)
    lines = tuple([out + port + (dice.choice(delays),) for out, port in zip(outs[:many], ins[:many])])
    stations = []
    for name in names:
        own = [line[1] for line in lines if line[0] == name]
        into = tuple([port for other, port in ins if other == name])
        alarms = dice.choice([(), ('k',), ('l', 'k')])
        passing = [('send', out, ('-', 'it', 1)) for out in own if dice.random() < 0.7]
        blocks = [(*[('send', out, 1) for out in own if dice.random() < 0.5], ('say', 'p')) for _ in alarms]
        for _ in into:
            block = [('set', 'p', ('+', 'p', 'it')), ('if', ('<', 0, 'it'), tuple(passing), ())]
            if alarms and dice.random() < 0.4:
                block.append(('wait', alarms[0], ('+', 'p', 1)))
            blocks.append(tuple(block))
        stations.append((name, (('p', 0),), into, tuple(dict.fromkeys(own)), alarms, tuple(blocks)))
    first = [(dice.randint(0, 9), *dice.choice(ins[many:]), dice.randint(1, 3)) for _ in range(dice.randint(1, 6))]
    first += [(dice.randint(0, 9), station[0], alarm, 0) for station in stations for alarm in station[4]
              if dice.random() < 0.5]
    return (4, tuple(stations), lines, tuple(first))


def net_model(seed, many=None, lines=None, delays=((0, 0, 1), (1, 2, 3), (0, 1, 5), (0,)), latest=60):
    """A model of stations with alarms, and lines between them; nothing waits at their ins."""
    dice = random.Random(seed)
    names = ['a', 'b', 'c', 'd'][:many or dice.randint(2, 4)]
    outs = [(name, out) for name in names for out in 'opq']
    ins = [(name, port) for name in names for port in 'ijl']
    dice.shuffle(outs)
    dice.shuffle(ins)
    delays = dice.choice(delays)
    lines = tuple([out + port + (dice.choice(delays),)
                   for out, port in list(zip(outs, ins))[:lines or dice.randint(1, 6)]])
    stations, first = [], []
    for name in names:
        own = tuple([line[1] for line in lines if line[0] == name])
        into = tuple([line[3] for line in lines if line[2] == name])
        alarms = ('k',) if dice.random() < 0.8 else ()
        blocks = []
        for _ in (*alarms, *into):
            block = [('send', out, 1) for out in own if dice.random() < 0.7]
            block += [('wait', 'k', dice.randint(1, 3))] if alarms and dice.random() < 0.3 else []
            blocks.append(tuple(block))
        stations.append((name, (), into, own, alarms, tuple(blocks)))
        first += [(dice.randint(0, latest), name, 'k', 0) for _ in alarms]
    return (4, tuple(stations), lines, tuple(first))
