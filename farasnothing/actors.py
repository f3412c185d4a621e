"""Which states a station can have, and what its handlers can do from them.

A state is (worths, alarms): a worth for each cell, and the alarms that are set. A step is (name, it): a handler
and the worth with which it is done.
"""

from farasnothing.handling import are_worths, handle, may_be_it
from farasnothing.parts import find_rank, handlers_of, is_alarm
from farasnothing.values import is_tuple_of


class Actor:
    """One station of a model; it keeps what its handlers were found to do."""

    def __init__(self, model, place):
        self.size = model[0]
        self.station = model[1][place]
        self.outcomes = {}
        self.followers = {}
        self.tables = {}

    def outcome(self, worths, rank, it):
        """What a handler does, as handled tells it."""
        key = (worths, rank, it)
        if key not in self.outcomes:
            self.outcomes[key] = handle(self.size, self.station, worths, rank, it)
        return self.outcomes[key]

    def is_state(self, value):
        """Whether any value is a state of the station."""
        if not is_tuple_of(value, 2) or not are_worths(self.size, self.station, value[0]):
            return False
        return value[1] in alarm_sets(self.station)

    def every_state(self):
        """The ascending list of all states."""
        rows = [()]
        for _ in self.station[1]:
            rows = [(*row, worth) for row in rows for worth in range(self.size)]
        return sorted([(row, alarms) for row in rows for alarms in alarm_sets(self.station)])

    def worths_of_it(self, rank):
        """The worths with which a handler can be done."""
        return [0] if is_alarm(self.station, rank) else list(range(self.size))

    def can_begin(self, state, rank):
        """Whether a handler can be done from a state: that of an alarm only if the alarm is set."""
        return not is_alarm(self.station, rank) or self.station[4][rank] in state[1]

    def is_step(self, state, value):
        """Whether any value is a step from a state."""
        if not is_tuple_of(value, 2):
            return False
        rank = find_rank(self.station, value[0])
        if rank is None or not self.can_begin(state, rank):
            return False
        return may_be_it(self.size, self.station, rank, value[1])

    def steps_from(self, state):
        """The ascending list of all steps from a state."""
        steps = []
        for rank, name in enumerate(handlers_of(self.station)):
            if self.can_begin(state, rank):
                steps.extend([(name, it) for it in self.worths_of_it(rank)])
        return sorted(steps)

    def behind(self, state, step):
        """The state to which a step leads."""
        worths, alarms = state
        rank = find_rank(self.station, step[0])
        outcome = self.outcome(worths, rank, step[1])
        done = dict(outcome[2])
        still = []
        for alarm in self.station[4]:
            was_set = alarm in alarms and alarm != step[0]
            is_set = done[alarm] is not None if alarm in done else was_set
            if is_set:
                still.append(alarm)
        return (outcome[0], tuple(still))

    def one_further(self, state):
        """The states to which the station can come from a state by one step."""
        if state not in self.followers:
            others = [self.behind(state, step) for step in self.steps_from(state)]
            self.followers[state] = tuple({other: True for other in others})
        return self.followers[state]

    def reached(self, state):
        """The ascending list of the states to which the station can come from a state, itself too."""
        seen = {state: True}
        level = [state]
        while level:
            found = {other: True for one in level for other in self.one_further(one) if other not in seen}
            for other in found:
                seen[other] = True
            level = list(found)
        return sorted(list(seen))

    def reactions(self, states):
        """What the handlers do from these states: (outs, waits) for each, by rank."""
        table = []
        for rank, _ in enumerate(handlers_of(self.station)):
            starts = list({state[0]: True for state in states if self.can_begin(state, rank)})
            outcomes = [self.outcome(worths, rank, it) for worths in starts for it in self.worths_of_it(rank)]
            table.append((self.outs_of(outcomes), self.waits_of(outcomes)))
        return tuple(table)

    def outs_of(self, outcomes):
        """The outs on which something is sent, in the sequence of the station."""
        sent = {send[0]: True for outcome in outcomes for send in outcome[1]}
        return tuple([out for out in self.station[3] if out in sent])

    def waits_of(self, outcomes):
        """The alarms that are set, in the sequence of the station, each with the least worth."""
        least = {}
        for outcome in outcomes:
            for alarm, worth in outcome[2]:
                if worth is not None:
                    least[alarm] = min(worth, least.get(alarm, worth))
        return tuple([(alarm, least[alarm]) for alarm in self.station[4] if alarm in least])

    def able(self, word, state):
        """What the handlers can do by a word of knowing, in the present state: as reactions tells it."""
        if word == "delays":
            every = tuple([(alarm, 0) for alarm in self.station[4]])
            return tuple([(self.station[3], every) for _ in handlers_of(self.station)])
        key = None if word == "programs" else state
        if key not in self.tables:
            self.tables[key] = self.reactions(self.every_state() if key is None else self.reached(state))
        return self.tables[key]


def alarm_sets(station):
    """What alarms may be set: tuples in the sequence of the station."""
    sets = [()]
    for alarm in station[4]:
        sets = [*sets, *[(*one, alarm) for one in sets]]
    return sets


def state_now(holder, place):
    """The present state of the station at a place of a holder."""
    station = holder.model[1][place]
    post = holder.posts[place]
    alarms = tuple([alarm for alarm, stamp in zip(station[4], post.rings) if stamp is not None])
    return (post.cells, alarms)


def new_actors(model):
    """An actor for each station of a model."""
    return [Actor(model, place) for place, _ in enumerate(model[1])]
