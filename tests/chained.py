"""Chains of lines once more, by trying all of them; models of rings, chains, lines beside one another."""

import itertools
import random

from farasnothing.machine import Machine

STATIONS = 'abcde'


def chain_model(seed, most=5, lines=8, delays=None, latest=12):
    """A model of stations with alarms and ins at which letters wait, and any lines between them."""
    dice = random.Random(seed)
    names = STATIONS[:dice.randint(1, most)]
    outs = [(name, out) for name in names for out in 'opq']
    ins = [(name, port) for name in names for port in 'ijl']
    kind = dice.choice(('any', 'any', 'ring', 'chain', 'beside'))
    if kind == 'any':
        dice.shuffle(outs)
        dice.shuffle(ins)
    if kind in ('ring', 'chain'):
        turn = names[1:] + names[:1] if kind == 'ring' else names[1:]
        ins = [(name, 'i') for name in turn] + [(name, 'j') for name in names]
        outs = [(name, 'o') for name in names][:len(turn)] + [(name, 'p') for name in dice.sample(names, len(names))]
    if kind == 'beside':
        pair = (names[0], names[-1])
        outs = [(pair[0], out) for out in 'opq'] + [(pair[-1], out) for out in 'op' if len(names) > 1]
        ins = [(pair[-1], port) for port in 'ijl'] + [(pair[0], port) for port in 'ij' if len(names) > 1]
    many = min(dice.randint(0, lines), len(outs), len(ins))
    delays = delays or dice.choice(((0, 1), (0, 1, 2, 3), (1, 2, 5, 20), (0,)))
    told = tuple([out + port + (dice.choice(delays),) for out, port in zip(outs[:many], ins[:many])])
    ends = [(line[2], line[3]) for line in told]
    stations = tuple([(name, (), ('i', 'j', 'l'), ('o', 'p', 'q'), ('k',),
                       tuple([tuple([('send', out, 1) for out in 'opq' if dice.random() < 0.7]) for _ in range(4)]))
                      for name in names])
    first = [(dice.randint(0, latest), name, 'k', 0) for name in names if dice.random() < 0.6]
    first += [(dice.randint(0, latest), name, port, 1) for name in names for port in 'ijl'
              if (name, port) not in ends and dice.random() < 0.2]
    return (2, stations, told, tuple(first))


def chain_machine(seed, **named):
    """A machine of such a model, on which letters and notices may be on the way."""
    machine = Machine(chain_model(seed, **named))
    dice = random.Random(seed + 60)
    for _ in range(dice.choice((0, 1, 2, 4, 8))):
        name = dice.choice([station[0] for station in machine.model[1]])
        if machine.may_take(name):
            machine.take(name)
        for line, end in enumerate(machine.model[2]):
            if machine.on_way(line) and dice.random() < 0.25:
                machine.come(line)
            elif end[0] != end[2] and dice.random() < 0.1:
                machine.note(line)
    return machine


def begin(machine, name):
    """The least time of the items of a station and of the letters on the way to it."""
    times = [item[0][0] for item in machine.waiting(name)]
    for line, end in enumerate(machine.model[2]):
        times += [told[1][0] for told in machine.on_way(line) if end[2] == name and told[0] == 'letter']
    return min(times) if times else None


def chains_to(machine, name, lines):
    """All chains of these lines, none twice in a chain, that end at a station."""
    ends = machine.model[2]
    found = []
    further = [(line,) for line in lines if begin(machine, ends[line][0]) is not None]
    for chain in further:
        if ends[chain[-1]][2] == name:
            found.append(chain)
        further += [(*chain, line) for line in lines if line not in chain and ends[line][0] == ends[chain[-1]][2]]
    return found


def time_of(machine, chain, adds=None):
    """The time of a chain, the delays being longer by adds."""
    ends = machine.model[2]
    return begin(machine, ends[chain[0]][0]) + sum([ends[line][4] + (adds[line] if adds else 0) for line in chain])


def on_way_early(machine, name, time):
    """Whether a letter that is on the way to a station is too early."""
    return any([told[0] == 'letter' and told[1][0] < time for line, end in enumerate(machine.model[2])
                if end[2] == name for told in machine.on_way(line)])


def least_price(machine, name, time, prices):
    """The least price of adds with which no chain is too early, None without any; by trying all adds."""
    every = chains_to(machine, name, range(len(prices)))
    lacks = [(chain, time - time_of(machine, chain)) for chain in every]
    lacks = [(chain, lack) for chain, lack in lacks if lack > 0]
    grows = [line for line, price in enumerate(prices)
             if price is not None and any([line in chain for chain, _ in lacks])]
    if on_way_early(machine, name, time) or any([not set(chain) & set(grows) for chain, _ in lacks]):
        return None
    most = max([0, *[lack for _, lack in lacks]])
    best = None
    for told in itertools.product(range(most + 1), repeat=len(grows)):
        price = sum([prices[line] * add for line, add in zip(grows, told)])
        adds = dict(zip(grows, told))
        if (best is None or price < best) and all([sum([adds.get(line, 0) for line in chain]) >= lack
                                                   for chain, lack in lacks]):
            best = price
    return best


def is_right_flow(machine, name, time, prices, flow, price):
    """Whether chains with amounts show that no adds are cheaper."""
    loads = [0 for _ in prices]
    asks = 0
    for chain, amount in flow:
        ends = [machine.model[2][line] for line in chain]
        if not ends or amount < 1 or any([one[2] != other[0] for one, other in zip(ends, ends[1:])]):
            return False
        if begin(machine, ends[0][0]) is None or ends[-1][2] != name or time_of(machine, chain) >= time:
            return False
        for line in chain:
            loads[line] += amount
        asks += amount * (time - time_of(machine, chain))
    return asks == price and all([one is None or load <= one for one, load in zip(prices, loads)])
