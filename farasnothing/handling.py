"""What the handlers of stations do."""

from farasnothing.errors import BadWorth, BadWorths, NoHandler
from farasnothing.models import place_in
from farasnothing.parts import find_rank, is_alarm
from farasnothing.values import is_tuple_of, is_within


class Doing:
    """A handler under way: the worths by name, and what it did so far."""

    def __init__(self, size, cells, it):
        self.size = size
        self.cells = cells
        self.it = it
        self.sends = []
        self.rings = {}
        self.says = []


def handled(model, station, worths, name, it):
    """What a handler does: (worths, sends, alarms, said)."""
    place = place_in(model, station)
    size = model[0]
    whole = model[1][place]
    if not are_worths(size, whole, worths):
        raise BadWorths(worths)
    rank = find_rank(whole, name)
    if rank is None:
        raise NoHandler(name)
    if not may_be_it(size, whole, rank, it):
        raise BadWorth(it)
    return handle(size, whole, worths, rank, it)


def are_worths(size, station, value):
    """Whether any value is a tuple with a worth for each cell of the station."""
    if not is_tuple_of(value, len(station[1])):
        return False
    return all([is_within(worth, size) for worth in value])


def may_be_it(size, station, rank, value):
    """Whether the handler with this rank can be done with any value as it."""
    if is_alarm(station, rank):
        return is_within(value, 1)
    return is_within(value, size)


def handle(size, station, worths, rank, it):
    """What handled tells, of arguments that are right."""
    cells = {cell[0]: worth for cell, worth in zip(station[1], worths)}
    doing = Doing(size, cells, it)
    do_block(doing, station[5][rank])
    behind = tuple([doing.cells[cell[0]] for cell in station[1]])
    rings = tuple([(alarm, doing.rings[alarm]) for alarm in station[4] if alarm in doing.rings])
    return (behind, tuple(doing.sends), rings, tuple(doing.says))


def do_block(doing, block):
    """Does the statements of a block, one behind the other."""
    for statement in block:
        do_statement(doing, statement)


def do_statement(doing, statement):
    """Does one statement."""
    word = statement[0]
    if word == "set":
        doing.cells[statement[1]] = worth_of(doing, statement[2])
    elif word == "send":
        doing.sends.append((statement[1], worth_of(doing, statement[2])))
    elif word == "wait":
        doing.rings[statement[1]] = worth_of(doing, statement[2])
    elif word == "drop":
        doing.rings[statement[1]] = None
    elif word == "say":
        doing.says.append(worth_of(doing, statement[1]))
    elif word == "if":
        do_block(doing, statement[2] if holds(doing, statement[1]) else statement[3])
    else:
        for _ in range(worth_of(doing, statement[1])):
            do_block(doing, statement[2])


def holds(doing, condition):
    """Whether a condition holds at this moment."""
    left = worth_of(doing, condition[1])
    right = worth_of(doing, condition[2])
    if condition[0] == "=":
        return left == right
    return left < right


def worth_of(doing, expression):
    """The worth of an expression at this moment."""
    if isinstance(expression, int):
        return expression
    if expression == "it":
        return doing.it
    if isinstance(expression, str):
        return doing.cells[expression]
    left = worth_of(doing, expression[1])
    right = worth_of(doing, expression[2])
    return reckoned(expression[0], left, right) % doing.size


def reckoned(sign, left, right):
    """What the sign makes of two integers."""
    if sign == "+":
        return left + right
    if sign == "-":
        return left - right
    return left * right
