"""The states of a station, ways between them, and what its handlers can do."""

from farasnothing.actors import Actor, state_now
from farasnothing.errors import BadState
from farasnothing.models import place_in
from farasnothing.parts import place_of
from farasnothing.values import is_tuple_of


def state_of(machine, station):
    """The present state of a station of a machine."""
    return state_now(machine, place_of(machine.model, station))


def all_states(model, station):
    """The ascending tuple of all states of a station."""
    return tuple(Actor(model, place_in(model, station)).every_state())


def states_from(model, station, state):
    """The ascending tuple of all states to which a station can come from this one, itself too."""
    actor = Actor(model, place_in(model, station))
    require_state(actor, state)
    return tuple(actor.reached(state))


def way_to(model, station, state, other):
    """The shortest way to the other state, the least of these; or the states that can be reached."""
    actor = Actor(model, place_in(model, station))
    require_state(actor, state)
    require_state(actor, other)
    ways = {state: ()}
    level = [state]
    while level and other not in ways:
        level = next_level(actor, level, ways)
    if other in ways:
        return ("way", ways[other])
    return ("no", tuple(sorted(list(ways))))


def next_level(actor, level, ways):
    """The states that are one step further than those of a level; their ways are noted.

    States of a level stand in the sequence of their least ways. So the first way to a new state is its least one.
    """
    further = []
    for state in level:
        for step in actor.steps_from(state):
            other = actor.behind(state, step)
            if other not in ways:
                ways[other] = (*ways[state], step)
                further.append(other)
    return further


def shows_way(model, station, state, other, value):
    """Whether any value shows how to come to the other state, or that no way leads there."""
    actor = Actor(model, place_in(model, station))
    require_state(actor, state)
    require_state(actor, other)
    if not is_tuple_of(value, 2):
        return False
    if value[0] == "way":
        return leads(actor, state, other, value[1])
    if value[0] == "no":
        return parts_off(actor, state, other, value[1])
    return False


def leads(actor, state, other, steps):
    """Whether any value is a tuple of steps that leads from the state to the other one."""
    if not isinstance(steps, tuple):
        return False
    now = state
    for step in steps:
        if not actor.is_step(now, step):
            return False
        now = actor.behind(now, step)
    return now == other


def parts_off(actor, state, other, states):
    """Whether any value is an ascending tuple of states that has the state, not the other one, and is closed."""
    if not isinstance(states, tuple) or not all([actor.is_state(one) for one in states]):
        return False
    if list(states) != sorted(set(states)):
        return False
    members = {one: True for one in states}
    if state not in members or other in members:
        return False
    return all([further in members for one in states for further in actor.one_further(one)])


def reactions(model, station, states):
    """What the handlers of a station do from these states: (outs, waits) for each, by rank."""
    actor = Actor(model, place_in(model, station))
    if not isinstance(states, tuple):
        raise BadState(states)
    for state in states:
        require_state(actor, state)
    return actor.reactions(states)


def require_state(actor, value):
    """Raises BadState for any value that is no state."""
    if not actor.is_state(value):
        raise BadState(value)
