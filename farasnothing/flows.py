"""Whether an answer about the cheapest longer delays is right."""

from farasnothing.chains import begin_times, comes_early, delays_of, ends_of, place_kept, reached
from farasnothing.parts import is_line_number, receiver_of, sender_of
from farasnothing.values import is_count, is_integer, is_tuple_of


def shows_cheapest(machine, station, time, prices, value):
    """Whether any value is a cheapest answer: any adds of the least price, any flow, any chain."""
    place = place_kept(machine, station, time, prices)
    if is_tuple_of(value, 2) and value[0] == "never":
        return is_reason(machine, place, time, prices, value[1])
    if not is_tuple_of(value, 4) or value[0] != "adds":
        return False
    _, price, adds, flow = value
    if not is_integer(price) or not are_adds(prices, adds) or comes_early(machine, place, time):
        return False
    if price_of_adds(prices, adds) != price or not is_late(machine, place, time, adds):
        return False
    return is_flow(machine, place, time, prices, flow) and asked_by(machine, time, flow) == price


def is_reason(machine, place, time, prices, value):
    """Whether any value is a chain that is too early and cannot grow, or () for a letter that is too early."""
    if value == ():
        return comes_early(machine, place, time)
    if not is_early_chain(machine, place, time, value):
        return False
    return all([prices[line] is None for line in value])


def are_adds(prices, value):
    """Whether any value is an integer from 0 for each line, 0 for those that cannot grow."""
    if not is_tuple_of(value, len(prices)) or not all([is_count(add) for add in value]):
        return False
    return all([price is not None or add == 0 for price, add in zip(prices, value)])


def price_of_adds(prices, adds):
    """All prices times adds together."""
    return sum([price * add for price, add in zip(prices, adds) if price is not None])


def is_late(machine, place, time, adds):
    """Whether no chain that ends at the station is too early by delays that are longer by these adds."""
    routes = [(begin, end, delay + add, None)
              for (begin, end), delay, add in zip(ends_of(machine, place), delays_of(machine), adds)]
    least = reached(begin_times(machine), routes)[0][-1]
    return least is None or least >= time


def is_flow(machine, place, time, prices, value):
    """Whether any value is a flow on chains that are too early, on no line more than its price."""
    if not isinstance(value, tuple) or not all([is_share(machine, place, time, one) for one in value]):
        return False
    for line, price in enumerate(prices):
        if price is not None and sum([amount * chain.count(line) for chain, amount in value]) > price:
            return False
    return True


def is_share(machine, place, time, value):
    """Whether any value is a chain that is too early, and the amount that flows on it."""
    if not is_tuple_of(value, 2) or not is_count(value[1]) or value[1] == 0:
        return False
    return is_early_chain(machine, place, time, value[0])


def is_early_chain(machine, place, time, value):
    """Whether any value is a chain that ends at the station at this place and is earlier than the time."""
    model = machine.model
    if not isinstance(value, tuple) or not value or not all([is_line_number(model, line) for line in value]):
        return False
    for line, further in zip(value, value[1:]):
        if receiver_of(model, line) != sender_of(model, further):
            return False
    if begin_times(machine)[sender_of(model, value[0])] is None or receiver_of(model, value[-1]) != place:
        return False
    return time_of_chain(machine, value) < time


def time_of_chain(machine, chain):
    """The time of a chain: when it begins, and the delays of its lines together."""
    begins = begin_times(machine)[sender_of(machine.model, chain[0])]
    return begins + sum([machine.model[2][line][4] for line in chain])


def asked_by(machine, time, flow):
    """What a flow asks for: the amounts, each as often as the time is above that of its chain, together."""
    return sum([amount * (time - time_of_chain(machine, chain)) for chain, amount in flow])
