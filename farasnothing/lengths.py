"""The cheapest longer delays with which nothing comes to a station before a time.

Chains that are too early ask for longer delays: if so much flows on them that no line carries more than its price, no
adds are cheaper than what they ask for together. The greatest such flow asks for just the price of the cheapest adds,
which are what is lacking from place to place when nothing more can flow.
"""

from farasnothing.chains import begin_times, comes_early, delays_of, ends_of, place_kept, reached, way_to_end


class Flow:
    """How much flows on the lines to a station, and from which places."""

    def __init__(self, machine, place, prices):
        self.begins = begin_times(machine)
        self.ends = ends_of(machine, place)
        self.delays = delays_of(machine)
        self.prices = prices
        self.amounts = [0 for _ in prices]
        self.starts = [0 for _ in self.begins]

    def route(self, line):
        """A line as a route, on which one more flows."""
        begin, end = self.ends[line]
        return (begin, end, self.delays[line], (line, 1))

    def route_against(self, line):
        """A line as a route that leads back, on which one less flows."""
        begin, end = self.ends[line]
        return (end, begin, -self.delays[line], (line, -1))

    def free_routes(self):
        """All routes on which more can flow, or less."""
        more = [self.route(line) for line, price in enumerate(self.prices)
                if price is None or self.amounts[line] < price]
        return [*more, *[self.route_against(line) for line, amount in enumerate(self.amounts) if amount]]

    def push(self, time):
        """Lets one more flow on the earliest chain that is too early; returns whether there is one."""
        times, routes_to = reached(self.begins, self.free_routes())
        if times[-1] is None or times[-1] >= time:
            return False
        place, steps = way_to_end(routes_to)
        self.starts[place] += 1
        for line, more in steps:
            self.amounts[line] += more
        return True

    def pull(self):
        """Lets one less flow on a chain on which something flows; returns the chain."""
        begins = [begin if start else None for begin, start in zip(self.begins, self.starts)]
        routes = [self.route(line) for line, amount in enumerate(self.amounts) if amount]
        place, steps = way_to_end(reached(begins, routes)[1])
        self.starts[place] -= 1
        for line, _ in steps:
            self.amounts[line] -= 1
        return tuple([line for line, _ in steps])

    def adds(self, time):
        """What the delays lack, as nothing more can flow before the time."""
        times, _ = reached([*self.begins[:-1], time], self.free_routes())
        return tuple([self.lacks(times, line) for line, _ in enumerate(self.prices)])

    def lacks(self, times, line):
        """What the delay of a line lacks so that it leads from one of these times to the other."""
        begin, end = self.ends[line]
        if self.prices[line] is None or times[begin] is None:
            return 0
        return max(0, times[end] - times[begin] - self.delays[line])


def cheapest(machine, station, time, prices):
    """The cheapest adds to delays with which nothing comes to a station before a time, or why there are none."""
    place = place_kept(machine, station, time, prices)
    if comes_early(machine, place, time):
        return ("never", ())
    flow = Flow(machine, place, prices)
    chain = fixed_chain(flow, time)
    if chain is not None:
        return ("never", chain)
    while flow.push(time):
        pass
    adds = flow.adds(time)
    price = sum([one * add for one, add in zip(prices, adds) if add])
    return ("adds", price, adds, flow_shown(flow))


def fixed_chain(flow, time):
    """A chain of lines that cannot grow which is too early, None without one."""
    routes = [flow.route(line) for line, price in enumerate(flow.prices) if price is None]
    times, routes_to = reached(flow.begins, routes)
    if times[-1] is None or times[-1] >= time:
        return None
    return tuple([line for line, _ in way_to_end(routes_to)[1]])


def flow_shown(flow):
    """The flow as chains, each with its amount; afterwards nothing flows."""
    amounts = {}
    while any(flow.starts):
        chain = flow.pull()
        amounts[chain] = amounts.get(chain, 0) + 1
    return tuple([(chain, amount) for chain, amount in amounts.items()])
