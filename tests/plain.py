"""Machines once more, by the document's words: letter by letter, each row tried, all stamps followed round by round."""

import copy
import itertools

from tests import oracle

NEVER = (float('inf'), 0)
WORDS = ('delays', 'programs', 'states')


def told(stamp):
    return None if stamp == NEVER else stamp


def after(stamp, delay):
    return NEVER if stamp == NEVER else oracle.after(stamp, delay)


class Refused(Exception):
    """An order raised an error with this name and value."""


class Now:
    """What a station has; a mark is a copy of it."""

    def __init__(self, station, into, out_of):
        self.deeds = ()
        self.cells = tuple([cell[1] for cell in station[1]])
        self.rings = {}
        self.took = set()
        self.came = {line: set() for line in into}
        self.heard = {line: (0, 0) for line in into}
        self.sent = {line: 0 for line in out_of}


class Line:

    def __init__(self):
        self.letters = {}
        self.way = []
        self.gone = set()
        self.told = (0, 0)


class PlainMachine:

    def __init__(self, model, knows, roofs, unwritten, changes):
        self.model, self.knows, self.roofs = model, list(knows), [list(roof) for roof in roofs]
        self.unwritten, self.changes = unwritten, list(changes)
        self.size, self.stations, self.ends, first = model
        self.names = [station[0] for station in self.stations]
        self.lines = [Line() for _ in self.ends]
        self.now, self.marks, self.ever, self.first, self.abilities = {}, {}, {}, {}, {}
        for station in self.stations:
            name = station[0]
            into = [line for line, told in enumerate(self.ends) if told[2] == name]
            self.now[name] = Now(station, into, [line for line, told in enumerate(self.ends) if told[0] == name])
            self.first[name] = []
            many = {}
            for time, owner, port, worth in first:
                if owner == name and port in station[4]:
                    self.now[name].rings[port] = (time, 0)
                elif owner == name:
                    many[port] = many.get(port, -1) + 1
                    self.first[name].append((port, many[port], (time, 0), worth))
            self.marks[name] = [copy.deepcopy(self.now[name])]
            self.ever[name] = []
        self.drawing = self.drawn = None

    # What is known.

    def whole(self, name):
        return self.stations[self.names.index(name)]

    def roof(self, name):
        return [roof for roof in self.roofs if name in roof][0]

    def inner(self, line):
        return self.ends[line][2] in self.roof(self.ends[line][0])

    def items(self, name):
        """(stamp, rank, number, name, worth, id) of all that waits."""
        station, now, items = self.whole(name), self.now[name], []
        ranks = {one: rank for rank, one in enumerate(station[4] + station[2])}
        for alarm, stamp in now.rings.items():
            items.append((stamp, ranks[alarm], 0, alarm, 0, None))
        for port, number, stamp, worth in self.first[name]:
            if (port, number) not in now.took:
                items.append((stamp, ranks[port], number, port, worth, (port, number)))
        for line, came in now.came.items():
            port = self.ends[line][3]
            for number in came:
                if (port, number) not in now.took:
                    stamp, worth = self.lines[line].letters[number]
                    items.append((stamp, ranks[port], number, port, worth, (port, number)))
        return sorted(items)

    def can(self, name, word):
        """For each handler by name what it can do."""
        station = self.whole(name)
        handlers = station[4] + station[2]
        if word == 'delays':
            return {one: (station[3], [(alarm, 0) for alarm in station[4]]) for one in handlers}
        alarms = tuple([alarm for alarm in station[4] if alarm in self.now[name].rings])
        key = (name, word, (self.now[name].cells, alarms) if word == 'states' else None)
        if key not in self.abilities:
            states = oracle.states_of(self.size, station)
            if word == 'states':
                states = oracle.closed(self.size, station, key[2])
            self.abilities[key] = dict(zip(handlers, oracle.reacted(self.size, station, states)))
        return self.abilities[key]

    def delay(self, line, stamp):
        found = [change for change in self.changes if change[1] == line and change[0] <= stamp]
        return max(found)[2] if found else self.ends[line][4]

    def last(self, line, many=None):
        """The stamp of the last of the first so many letters, of those that the sender has sent."""
        many = self.now[self.ends[line][0]].sent[line] if many is None else many
        return self.lines[line].letters[many - 1][0] if many else (0, 0)

    def arrival(self, line, stamp):
        if stamp == NEVER:
            return NEVER
        stamps = [stamp, *[change[0] for change in self.changes if change[1] == line and change[0] > stamp]]
        return max(min([after(one, self.delay(line, one)) for one in stamps]), self.last(line))

    def on_way(self, line):
        return [self.lines[line].letters[one[1]][0] for one in self.lines[line].way if one[0] == 'letter']

    def table(self, group, words):
        """The greatest table: first all own stamps, then lowered until nothing more follows."""
        table, follows = {}, []
        for name in group:
            station = self.whole(name)
            for handler in station[4] + station[2]:
                own = [item[0] for item in self.items(name) if item[3] == handler]
                for line, (sender, _, receiver, port, _) in enumerate(self.ends):
                    if (receiver, port) == (name, handler):
                        own += self.on_way(line) if sender in group else [self.now[name].heard[line]]
                table[name, handler] = min([NEVER, *own])
            for handler, (outs, waits) in self.can(name, words[self.names.index(name)]).items():
                for alarm, worth in waits:
                    follows.append(((name, handler), (name, alarm), worth, None))
                for line, (sender, out, receiver, port, _) in enumerate(self.ends):
                    if sender == name and out in outs and receiver in group:
                        follows.append(((name, handler), (receiver, port), None, line))
        before = None
        while before != table:
            before = dict(table)
            for cause, effect, worth, line in follows:
                if line is None:
                    stamp = after(table[cause], worth)
                else:
                    stamp = max(self.now[effect[0]].heard[line], self.arrival(line, table[cause]))
                table[effect] = min(table[effect], stamp)
        return table

    def arrives(self, line, table, words):
        sender, out = self.ends[line][:2]
        able = self.can(sender, words[self.names.index(sender)])
        return min([NEVER] + [self.arrival(line, table[sender, handler])
                              for handler, (outs, _) in able.items() if out in outs])

    def promise(self, line):
        if self.inner(line):
            raise Refused('Inner', line)
        return told(self.arrives(line, self.table(self.roof(self.ends[line][0]), self.knows), self.knows))

    def heard(self, line):
        heard = self.now[self.ends[line][2]].heard[line]
        if self.inner(line):
            table = self.table(self.roof(self.ends[line][0]), self.knows)
            heard = max(heard, min([self.arrives(line, table, self.knows), *self.on_way(line)]))
        return heard

    def bound(self, line, words):
        heard = self.now[self.ends[line][2]].heard[line]
        arrives = self.arrives(line, self.table(self.names, words), words)
        return min([max(heard, arrives), *self.on_way(line)])

    # Orders.

    def do(self, order):
        return getattr(self, order[0])(*order[1:])

    def waits(self, name, item):
        station = self.whole(name)
        for rank, handler in enumerate(station[4] + station[2]):
            for line, end in enumerate(self.ends):
                if end[2:4] == (name, handler):
                    heard = self.heard(line)
                    if heard < item[0] or heard == item[0] and rank < item[1]:
                        return line
        return None

    def may_take(self, name):
        items = self.items(name)
        return bool(items) and self.waits(name, items[0]) is None

    def take(self, name):
        items = self.items(name)
        if not items:
            raise Refused('NoItem', name)
        line = self.waits(name, items[0])
        if line is not None:
            raise Refused('Waits', line)
        stamp, _, _, handler, worth, one = items[0]
        station, now = self.whole(name), self.now[name]
        before = copy.deepcopy(now)
        now.cells, sends, alarms, said = oracle.done(self.size, station, now.cells, handler, worth)
        if one is None:
            del now.rings[handler]
        else:
            now.took.add(one)
        for alarm, later in alarms:
            now.rings.pop(alarm, None)
            if later is not None:
                now.rings[alarm] = after(stamp, later)
        letters = []
        for out, content in sends:
            for line, end in enumerate(self.ends):
                if end[:2] == (name, out):
                    letters.append(self.send(line, stamp, content))
        deed = (stamp, name, handler, worth, tuple(letters), said)
        if len(now.deeds) == len(self.ever[name]):
            self.ever[name].append((deed, before))
        assert self.ever[name][len(now.deeds)][0] == deed
        now.deeds += (deed,)
        return deed

    def send(self, line, stamp, worth):
        now, carries = self.now[self.ends[line][0]], self.lines[line]
        number = now.sent[line]
        letter = (max(after(stamp, self.delay(line, stamp)), self.last(line)), worth)
        now.sent[line] += 1
        if number in carries.letters:
            assert carries.letters[number] == letter
        if number in carries.gone or number not in carries.letters:
            carries.gone.discard(number)
            carries.letters[number] = letter
            carries.way.append(('letter', number))
            carries.told = max(carries.told, letter[0])
        return (line, number, *letter)

    def shown(self, line, one):
        if one[0] == 'letter':
            return ('letter', *self.lines[line].letters[one[1]])
        return ('notice', told(one[1])) if one[0] == 'notice' else one

    def come(self, line):
        if not self.lines[line].way:
            raise Refused('NothingOnWay', line)
        one = self.lines[line].way.pop(0)
        shown = self.shown(line, one)
        name = self.ends[line][2]
        now = self.now[name]
        if one[0] == 'flag':
            self.draw(name)
            self.drawing['flags'].add(line)
            self.complete()
            return shown
        if one[0] == 'letter':
            now.came[line].add(one[1])
            if self.drawing and name in self.drawing['parts'] and line not in self.drawing['flags'] \
                    and not self.inner(line):
                self.drawing['ways'][line].append((one[1], *self.lines[line].letters[one[1]]))
        now.heard[line] = max(now.heard[line], self.lines[line].letters[one[1]][0] if one[0] == 'letter' else one[1])
        return shown

    def note(self, line):
        stamp = self.promise(line)
        self.lines[line].way.append(('notice', NEVER if stamp is None else stamp))
        self.lines[line].told = max(self.lines[line].told, NEVER if stamp is None else stamp)
        return stamp

    def learn(self, name, word):
        place = self.names.index(name)
        if WORDS.index(word) < WORDS.index(self.knows[place]):
            raise Refused('BadKnows', word)
        self.knows[place] = word

    def unite(self, name, other):
        if other not in self.roof(name):
            self.end_drawing()
            both = self.roof(name) + self.roof(other)
            self.roofs = [roof for roof in self.roofs if roof[0] not in both] + [both]
            self.roofs = sorted([sorted(roof, key=self.names.index) for roof in self.roofs],
                                key=lambda roof: self.names.index(roof[0]))

    def survey(self):
        bounds = [self.bound(line, self.knows) for line, _ in enumerate(self.lines)]
        for line, stamp in enumerate(bounds):
            self.tell(line, stamp)

    def tell(self, line, stamp):
        heard = self.now[self.ends[line][2]].heard
        heard[line] = max(heard[line], stamp)
        self.lines[line].told = max(self.lines[line].told, stamp)

    # Pictures.

    def behind(self, name):
        return len(self.ever[name]) - len(self.now[name].deeds)

    def picture(self, names):
        reached = set()
        further = set(names)
        while further:
            reached |= further
            further = {other for name in reached for other in self.roof(name)}
            further = (further | {end[2] for end in self.ends if end[0] in reached}) - reached
        for name in self.names:
            if name not in reached:
                raise Refused('Unreached', name)
        for name in self.names:
            if self.behind(name):
                raise Refused('Behind', name)
        if self.drawing:
            raise Refused('UnderWay', None)
        self.drawing = {'parts': {}, 'ways': [[] for _ in self.ends], 'flags': set()}
        for name in names:
            self.draw(name)
        self.complete()

    def draw(self, name):
        if name in self.drawing['parts']:
            return
        roof = self.roof(name)
        inner = [line for line, end in enumerate(self.ends) if end[0] in roof and end[2] in roof]
        for line, stamp in [(line, self.heard(line)) for line in inner]:
            self.tell(line, stamp)
        for one in roof:
            now, station = self.now[one], self.whole(one)
            alarms = [(alarm, now.rings[alarm]) for alarm in station[4] if alarm in now.rings]
            letters = [(item[3], item[2], item[0], item[4]) for item in self.items(one) if item[5]]
            sent = [(many, self.last(line) if many else None) for line, many in sorted(now.sent.items())]
            self.drawing['parts'][one] = (len(now.deeds), now.cells, tuple(alarms), tuple(letters),
                                          tuple([told(stamp) for _, stamp in sorted(now.heard.items())]), tuple(sent))
        for line, end in enumerate(self.ends):
            if line in inner:
                self.drawing['ways'][line] = [(way[1], *self.lines[line].letters[way[1]])
                                              for way in self.lines[line].way if way[0] == 'letter']
            elif end[0] in roof:
                self.lines[line].way.append(('flag',))

    def complete(self):
        if all([self.inner(line) or line in self.drawing['flags'] for line, _ in enumerate(self.ends)]):
            parts = tuple([self.drawing['parts'][name] for name in self.names])
            self.drawn = (parts, tuple([tuple(way) for way in self.drawing['ways']]))
            self.drawing = None

    def end_drawing(self):
        self.drawing = None
        for line in self.lines:
            line.way = [one for one in line.way if one[0] != 'flag']

    # Marks, falls, taking back.

    def mark(self, name):
        marks = [mark for mark in self.marks[name] if len(mark.deeds) != len(self.now[name].deeds)]
        self.marks[name] = [*marks, copy.deepcopy(self.now[name])]

    def rows(self, choices, apart):
        """All rows of these choices of marks, by name, by which no line that is not written is apart."""
        for row in itertools.product(*[choices[name] for name in self.names]):
            by = dict(zip(self.names, row))
            if not any([apart(line, by[self.ends[line][0]], by[self.ends[line][2]]) for line in self.unwritten]):
                yield row

    def greatest(self, rows):
        def key(mark):
            return 10 ** 9 if mark is None else len(mark.deeds)
        rows = list(rows)
        keys = [tuple([key(mark) for mark in row]) for row in rows]
        best = tuple([max(column) for column in zip(*keys)])
        return rows[keys.index(best)]

    def lacks(self, line, mark):
        return set() if mark is None else self.now[self.ends[line][2]].came[line] - mark.came[line]

    def apart(self, line, sender, receiver):
        if not self.lacks(line, receiver):
            return False
        return (sender or self.now[self.ends[line][0]]).sent[line] > len(receiver.came[line])

    def fall(self, names):
        choices = {name: self.marks[name] + ([] if name in names else [None]) for name in self.names}
        row = self.greatest(self.rows(choices, self.apart))
        for name, mark in zip(self.names, row):
            if mark is None:
                continue
            for line in mark.came:
                carries, lacking = self.lines[line], self.lacks(line, mark)
                letters = [one for one in carries.way if one[0] == 'letter']
                if line in self.unwritten and lacking:
                    carries.gone |= lacking | {one[1] for one in letters}
                    carries.way = []
                else:
                    carries.way = [('letter', number) for number in sorted(lacking)] + letters
        for name, mark in zip(self.names, row):
            if mark is not None:
                self.now[name] = copy.deepcopy(mark)
                self.marks[name] = [one for one in self.marks[name] if len(one.deeds) <= len(mark.deeds)]
        self.end_drawing()
        return tuple([None if mark is None else len(mark.deeds) for mark in row])

    def forget(self):
        def apart(line, sender, receiver):
            return sender.sent[line] > len(receiver.came[line])
        row = self.greatest(self.rows(self.marks, apart))
        for name, least in zip(self.names, row):
            self.marks[name] = [mark for mark in self.marks[name] if len(mark.deeds) >= len(least.deeds)]
        return tuple([len(mark.deeds) for mark in row])

    def back(self, stamp):
        for name in self.names:
            least = min(self.marks[name], key=lambda mark: len(mark.deeds))
            if any([deed[0] >= stamp for deed in least.deeds]):
                raise Refused('Forgotten', name)
        dead = {(letter[0], letter[1]) for name in self.names for deed, _ in self.ever[name]
                for letter in deed[4] if deed[0] >= stamp}
        for name in self.names:
            gone = [before for deed, before in self.ever[name] if deed[0] >= stamp]
            self.ever[name] = [one for one in self.ever[name] if one[0][0] < stamp]
            now = self.now[name]
            if [deed for deed in now.deeds if deed[0] >= stamp]:
                self.now[name] = copy.deepcopy(gone[0])
                self.now[name].came, self.now[name].heard = now.came, now.heard
            self.marks[name] = [mark for mark in self.marks[name] if not [d for d in mark.deeds if d[0] >= stamp]]
            for one in [self.now[name], *self.marks[name]]:
                for line, came in one.came.items():
                    one.came[line] = {number for number in came if (line, number) not in dead}
                    last = max([(0, 0)] + [self.lines[line].letters[number][0] for number in one.came[line]])
                    one.heard[line] = min(one.heard[line], max(stamp, last))
        for line, carries in enumerate(self.lines):
            carries.letters = {number: one for number, one in carries.letters.items() if (line, number) not in dead}
            carries.gone = {number for number in carries.gone if (line, number) not in dead}
            carries.way = [one for one in carries.way if one[0] == 'letter' and (line, one[1]) not in dead]
            last = max([(0, 0)] + [one[0] for one in carries.letters.values()])
            carries.told = min(carries.told, max(stamp, last))
        self.end_drawing()

    # Changes.

    def touches(self, stamp, line, delay):
        """Whether a change touches what was told or taken."""
        sender, out, receiver, port, _ = self.ends[line]
        if any([deed[0] >= stamp for deed, _ in self.ever[sender]]):
            return True
        table = self.table(self.names, self.knows)
        able = self.can(sender, self.knows[self.names.index(sender)])
        least = min([NEVER] + [table[sender, handler] for handler, (outs, _) in able.items() if out in outs])
        if least == NEVER:
            return False
        begin = max([after(max(least, stamp), delay)] + [one[0] for one in self.lines[line].letters.values()])
        other = copy.copy(self)
        other.changes = [one for one in self.changes if one[1] != line or one[0] < stamp] + [(stamp, line, delay)]
        letters = {(line, begin)}
        stamps = {(receiver, port): begin}
        further = [(receiver, port)]
        while further:
            name, handler = further.pop()
            outs, waits = self.can(name, self.knows[self.names.index(name)])[handler]
            found = [((name, alarm), after(stamps[name, handler], worth)) for alarm, worth in waits]
            for number, end in enumerate(self.ends):
                if end[0] == name and end[1] in outs:
                    found.append((end[2:4], other.arrival(number, stamps[name, handler])))
                    letters.add((number, found[-1][1]))
            for key, one in found:
                if one < stamps.get(key, NEVER):
                    stamps[key] = one
                    further.append(key)
        return any([self.spoils(number, one) for number, one in letters])

    def spoils(self, line, stamp):
        name, port = self.ends[line][2:4]
        station = self.whole(name)
        handlers = station[4] + station[2]
        taken = [(deed[0], handlers.index(deed[2])) for deed, _ in self.ever[name]]
        return stamp < self.lines[line].told or any([(stamp, handlers.index(port)) < one for one in taken])

    def change(self, stamp, line, delay):
        if self.touches(stamp, line, delay):
            raise Refused('TooEarly', None)
        self.changes = [one for one in self.changes if one[1] != line or one[0] < stamp] + [(stamp, line, delay)]
        self.changes.sort(key=lambda one: (one[1], one[0]))
