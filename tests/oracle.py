"""The document's words once more, as plainly as can be, to compare the package with."""


def evaluated(size, cells, it, e):
    if isinstance(e, int):
        return e
    if isinstance(e, str):
        return it if e == 'it' else cells[e]
    left, right = evaluated(size, cells, it, e[1]), evaluated(size, cells, it, e[2])
    return {'+': left + right, '-': left - right, '*': left * right}[e[0]] % size


def done(size, station, worths, name, it):
    """What handled tells."""
    cells = dict(zip([cell[0] for cell in station[1]], worths))
    sends, rings, said = [], {}, []

    def do(block):
        for statement in block:
            word = statement[0]
            if word == 'drop':
                rings[statement[1]] = None
            elif word == 'if':
                sign, left, right = statement[1]
                left, right = evaluated(size, cells, it, left), evaluated(size, cells, it, right)
                do(statement[2] if (left == right if sign == '=' else left < right) else statement[3])
            elif word == 'repeat':
                for _ in range(evaluated(size, cells, it, statement[1])):
                    do(statement[2])
            else:
                worth = evaluated(size, cells, it, statement[-1])
                if word == 'set':
                    cells[statement[1]] = worth
                elif word == 'send':
                    sends.append((statement[1], worth))
                elif word == 'wait':
                    rings[statement[1]] = worth
                else:
                    said.append(worth)

    do(station[5][(station[4] + station[2]).index(name)])
    alarms = tuple([(alarm, rings[alarm]) for alarm in station[4] if alarm in rings])
    return tuple([cells[cell[0]] for cell in station[1]]), tuple(sends), alarms, tuple(said)


def after(stamp, delay):
    return (stamp[0] + delay, 0) if delay else (stamp[0], stamp[1] + 1)


class OneClock:
    """All items in one list, each as (stamp, place, rank, number, worth)."""

    def __init__(self, model, changes=()):
        self.size, self.stations, self.lines, first = model
        self.changes = changes
        self.names = [station[0] for station in self.stations]
        self.worths = {station[0]: tuple([cell[1] for cell in station[1]]) for station in self.stations}
        self.sent = [[] for _ in self.lines]
        self.items = []
        self.deeds = []
        many = {}
        for time, station, name, worth in first:
            number = many.get((station, name), 0)
            many[station, name] = number + 1
            self.add((time, 0), station, name, number, worth)

    def add(self, stamp, station, name, number, worth):
        place = self.names.index(station)
        rank = (self.stations[place][4] + self.stations[place][2]).index(name)
        self.items.append((stamp, place, rank, number, worth))

    def delay(self, line, stamp):
        told = [(change[0], change[2]) for change in self.changes if change[1] == line and change[0] <= stamp]
        return max(told)[1] if told else self.lines[line][4]

    def told_items(self):
        told = []
        for stamp, place, rank, _, worth in sorted(self.items):
            station = self.stations[place]
            told.append((stamp, station[0], (station[4] + station[2])[rank], worth))
        return tuple(told)

    def step(self):
        if not self.items:
            return None
        item = min(self.items)
        self.items.remove(item)
        stamp, place, rank, _, it = item
        station = self.stations[place]
        name = (station[4] + station[2])[rank]
        worths, sends, alarms, said = done(self.size, station, self.worths[station[0]], name, it)
        self.worths[station[0]] = worths
        for alarm, worth in alarms:
            at = station[4].index(alarm)
            self.items = [other for other in self.items if (other[1], other[2]) != (place, at)]
            if worth is not None:
                self.add(after(stamp, worth), station[0], alarm, 0, 0)
        letters = []
        for out, worth in sends:
            for line, (sender, sending, receiver, port, _) in enumerate(self.lines):
                if (sender, sending) == (station[0], out):
                    comes = max([after(stamp, self.delay(line, stamp)), *self.sent[line]])
                    letters.append((line, len(self.sent[line]), comes, worth))
                    self.add(comes, receiver, port, len(self.sent[line]), worth)
                    self.sent[line].append(comes)
        deed = (stamp, station[0], name, it, tuple(letters), said)
        self.deeds.append(deed)
        return deed


def states_of(size, station):
    """All states."""
    rows = [()]
    for _ in station[1]:
        rows = [row + (worth,) for row in rows for worth in range(size)]
    sets = [()]
    for alarm in station[4]:
        sets = sets + [told + (alarm,) for told in sets]
    return sorted([(row, told) for row in rows for told in sets])


def steps(size, station, state):
    """All (name, it, state behind it, what was done) from a state."""
    found = []
    for name in station[4] + station[2]:
        if name in station[4] and name not in state[1]:
            continue
        for it in [0] if name in station[4] else range(size):
            outcome = done(size, station, state[0], name, it)
            told = {alarm: True for alarm in state[1] if alarm != name}
            told.update({alarm: worth is not None for alarm, worth in outcome[2]})
            alarms = tuple([alarm for alarm in station[4] if told.get(alarm)])
            found.append((name, it, (outcome[0], alarms), outcome))
    return found


def closed(size, station, state):
    """All states that can be reached."""
    found = [state]
    for one in found:
        found += [other for other in {step[2] for step in steps(size, station, one)} if other not in found]
    return sorted(found)


def reacted(size, station, states):
    """What reactions tells."""
    table = []
    for name in station[4] + station[2]:
        outs, waits = set(), {}
        for state in states:
            for step in steps(size, station, state):
                if step[0] == name:
                    outs |= {out for out, _ in step[3][1]}
                    for alarm, worth in step[3][2]:
                        if worth is not None:
                            waits.setdefault(alarm, []).append(worth)
        table.append((tuple([out for out in station[3] if out in outs]),
                      tuple([(alarm, min(waits[alarm])) for alarm in station[4] if alarm in waits])))
    return tuple(table)
