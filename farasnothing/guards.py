"""Which lines to write so that stations stay when others fall.

A pull is a chain of steps by which a station that falls takes another one back with it. Stations stay if each pull
that ends at one of them has a line that is written.
"""

from farasnothing.errors import BadPrices
from farasnothing.parts import lines_into, place_of, places_of, receiver_of, sender_of
from farasnothing.prices import are_prices, choices_of, price_of
from farasnothing.rows import mark_behind
from farasnothing.values import is_integer, is_tuple_of


class Chain:
    """A pull under way: its steps, and the mark that its last station has reached."""

    def __init__(self, place, held, steps):
        self.place = place
        self.held = held
        self.steps = steps


def guarded(machine, stations, safe, prices):
    """The cheapest lines to write so that safe stations stay if others fall, and pulls that ask for as much."""
    falls, guards = places_asked(machine, stations, safe, prices)
    both = sorted([place for place in guards if place in falls])
    if both:
        return ("never", machine.model[1][both[0]][0])
    answers = [(price_of(prices, lines), lines) for lines in choices_of(machine.unwritten)
               if find_pull(machine, falls, guards, lines) is None]
    price, lines = min(answers)
    pulls = {}
    for choice in choices_of(machine.unwritten):
        if price_of(prices, choice) < price:
            pulls[find_pull(machine, falls, guards, choice)] = True
    return ("lines", price, lines, tuple(pulls))


def shows_guarded(machine, stations, safe, prices, value):
    """Whether any value is such an answer: any lines of the least price, any pulls that ask for as much."""
    falls, guards = places_asked(machine, stations, safe, prices)
    both = sorted([place for place in guards if place in falls])
    if both:
        return value == ("never", machine.model[1][both[0]][0])
    if not is_tuple_of(value, 4) or value[0] != "lines" or not is_integer(value[1]):
        return False
    _, price, lines, pulls = value
    if not are_unwritten(machine, lines) or price_of(prices, lines) != price:
        return False
    if find_pull(machine, falls, guards, lines) is not None or not isinstance(pulls, tuple):
        return False
    if not all([is_pull(machine, falls, guards, pull) for pull in pulls]):
        return False
    cheaper = [choice for choice in choices_of(machine.unwritten) if price_of(prices, choice) < price]
    return all([is_torn(pulls, choice) for choice in cheaper])


def places_asked(machine, stations, safe, prices):
    """The places of the stations that fall and of those that are to be safe."""
    falls = places_of(machine.model, stations)
    guards = [] if safe == () else places_of(machine.model, safe)
    if not are_prices(prices, len(machine.model[2])):
        raise BadPrices(prices)
    return falls, guards


def find_pull(machine, falls, guards, lines):
    """A shortest pull from stations that fall to one that is to be safe, by none of these lines; None without one."""
    level = [fallen_chain(machine, place) for place in sorted(falls)]
    seen = {(chain.place, chain.held.many): True for chain in level}
    while level:
        further = []
        for chain in level:
            if chain.place in guards:
                return chain.steps
            further.extend(chains_behind(machine, chain, lines))
        level = []
        for chain in further:
            if (chain.place, chain.held.many) not in seen:
                seen[chain.place, chain.held.many] = True
                level.append(chain)
    return None


def fallen_chain(machine, place):
    """The first step of a pull: a station falls."""
    mark = machine.posts[place].marked[-1]
    return Chain(place, mark, ((machine.model[1][place][0], mark.many, None),))


def chains_behind(machine, chain, lines):
    """The chains that are one step longer, by lines other than these."""
    longer = []
    for line in lines_into(machine.model, chain.place):
        mark = pulled_by(machine, line, chain.held)
        if mark is not None and line not in lines:
            sender = sender_of(machine.model, line)
            step = (machine.model[1][sender][0], mark.many, line)
            longer.append(Chain(sender, mark, (*chain.steps, step)))
    return longer


def pulled_by(machine, line, reached):
    """The mark to which the sender of a line goes back from now by the receiver's mark, None if it need not."""
    if line not in machine.unwritten:
        return None
    return mark_behind(machine, line, reached, machine.wires[line].sent)


def are_unwritten(machine, value):
    """Whether any value is an ascending tuple of lines that are not written."""
    if not isinstance(value, tuple) or not all([is_integer(line) and line in machine.unwritten for line in value]):
        return False
    return list(value) == sorted(set(value))


def is_pull(machine, falls, guards, value):
    """Whether any value is a pull from stations that fall to one that is to be safe."""
    if not isinstance(value, tuple) or not value or not is_first_step(machine, falls, value[0]):
        return False
    place = place_of(machine.model, value[0][0])
    mark = machine.posts[place].marked[-1]
    for step in value[1:]:
        if not is_tuple_of(step, 3) or not is_integer(step[1]) or not is_integer(step[2]):
            return False
        line = step[2]
        if line not in machine.unwritten or receiver_of(machine.model, line) != place:
            return False
        mark = pulled_by(machine, line, mark)
        place = sender_of(machine.model, line)
        if mark is None or step[0] != machine.model[1][place][0] or step[1] != mark.many:
            return False
    return place in guards


def is_first_step(machine, falls, value):
    """Whether any value is the step by which a station falls."""
    if not is_tuple_of(value, 3) or not is_integer(value[1]):
        return False
    return value in [fallen_chain(machine, place).steps[0] for place in falls]


def is_torn(pulls, choice):
    """Whether some pull has none of these lines."""
    return any([not any([step[2] in choice for step in pull]) for pull in pulls])
