"""Arrangements: further words and roofs, and whether an answer shows that none that is cheaper is enough."""

from farasnothing.errors import BadPrices
from farasnothing.hearing import Listener, require_few, require_item
from farasnothing.knowing import is_inner
from farasnothing.levels import are_levels, are_notices
from farasnothing.limits import are_tops
from farasnothing.parts import is_line_number, place_of
from farasnothing.prices import are_prices, choices_of
from farasnothing.settings import WORDS, greater_word, is_no_less, is_word
from farasnothing.values import is_integer, is_tuple_of


def shows_arranged(machine, station, most, prices, value):
    """Whether any value is a cheapest arrangement by which so many notices are enough, or that there is none."""
    place = place_arranged(machine, station, most, prices)
    if is_tuple_of(value, 2) and value[0] == "none":
        return are_rows(machine, place, most, value[1], all_arrangements(machine))
    if not is_tuple_of(value, 5) or value[0] != "arranged":
        return False
    _, price, arrangement, lines, rows = value
    if not is_integer(price) or not is_arrangement(machine, arrangement):
        return False
    if price_arranged(machine, prices, arrangement) != price:
        return False
    if not are_notices(Listener(arranged_by(machine, arrangement)), place, lines) or len(lines) > most:
        return False
    cheaper = [one for one in all_arrangements(machine) if price_arranged(machine, prices, one) < price]
    return are_rows(machine, place, most, rows, cheaper)


def place_arranged(machine, station, most, prices):
    """The place of a station that is asked how few notices let it take, at which prices of further knowledge."""
    place = place_of(machine.model, station)
    require_few(most)
    if not are_arranging_prices(machine, prices):
        raise BadPrices(prices)
    require_item(machine, station)
    return place


def are_arranging_prices(machine, value):
    """Whether any value is the prices of words, a pair for each station, and of lines."""
    if not is_tuple_of(value, 2):
        return False
    words, lines = value
    if not is_tuple_of(words, len(machine.posts)) or not all([are_prices(pair, 2) for pair in words]):
        return False
    return are_prices(lines, len(machine.wires))


def is_arrangement(machine, value):
    """Whether any value is an arrangement: a word for each station, and an ascending tuple of lines."""
    if not is_tuple_of(value, 2):
        return False
    words, lines = value
    if not is_tuple_of(words, len(machine.posts)) or not all([is_word(word) for word in words]):
        return False
    if not isinstance(lines, tuple) or not all([is_line_number(machine.model, line) for line in lines]):
        return False
    return list(lines) == sorted(set(lines))


def all_arrangements(machine):
    """All arrangements of a machine."""
    rows = [()]
    for _ in machine.posts:
        rows = [(*row, word) for row in rows for word in WORDS]
    choices = choices_of([line for line, _ in enumerate(machine.wires)])
    return [(row, lines) for row in rows for lines in choices]


def arranged_by(machine, arrangement):
    """A machine that is like this one but for the further words and roofs of an arrangement."""
    words, lines = arrangement
    other = machine.copy()
    for station, word, knows in zip(machine.model[1], words, machine.knows):
        other.learn(station[0], greater_word(word, knows))
    for line in lines:
        sender, _, receiver, _, _ = machine.model[2][line]
        other.unite(sender, receiver)
    return other


def price_arranged(machine, prices, arrangement):
    """What an arrangement costs."""
    words, lines = arrangement
    costs = [prices[1][line] for line in lines if not is_inner(machine, line)]
    for pair, word, knows in zip(prices[0], words, machine.knows):
        if not is_no_less(knows, word):
            costs.append(pair[WORDS.index(word) - 1])
    return sum(costs)


def is_within_other(arrangement, other):
    """Whether an arrangement is within another one."""
    if not all([is_no_less(more, word) for word, more in zip(arrangement[0], other[0])]):
        return False
    return all([line in other[1] for line in arrangement[1]])


def are_rows(machine, place, most, value, arrangements):
    """Whether any value is rows that show that none of these arrangements is enough."""
    if not isinstance(value, tuple) or not all([is_row_of(machine, place, most, one) for one in value]):
        return False
    told = [one[0] for one in value]
    return all([any([is_within_other(one, other) for other in told]) for one in arrangements])


def is_row_of(machine, place, most, value):
    """Whether any value is a row: an arrangement, and why so many notices are not enough by it."""
    if not is_tuple_of(value, 2) or not is_arrangement(machine, value[0]) or not is_tuple_of(value[1], 2):
        return False
    kind, told = value[1]
    listener = Listener(arranged_by(machine, value[0]))
    if kind == "never":
        return are_tops(listener, place, told)
    return kind == "more" and are_levels(listener, place, told, most + 1)
