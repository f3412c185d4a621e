"""One clock that goes on with what a machine has, and machines whose letters come just at a bound."""

from farasnothing.actors import new_actors
from farasnothing.bounds import is_bare, road_to, words_by
from farasnothing.boards import Post, copied_wire
from farasnothing.knowing import bound_by, every_place, soonest_by
from farasnothing.oneclock import Clock
from farasnothing.parts import find_line_into, handlers_of, require_line, require_none_behind


def relayed(machine, line):
    """The same machine with programs by which a letter comes on a line just at its bound by delays."""
    require_line(machine.model, line)
    require_none_behind(machine)
    size, stations, lines, first = machine.model
    sends = sends_along(machine, line)
    relays = []
    for place, station in enumerate(stations):
        blocks = [((("send", sends[place, rank], 0),) if (place, rank) in sends else ())
                  for rank, _ in enumerate(handlers_of(station))]
        relays.append((*station[:5], tuple(blocks)))
    other = machine.copy()
    other.model = (size, tuple(relays), lines, first)
    # What actors found of the other programs does not hold for these.
    other.actors = new_actors(other.model)
    return other


def clock_of(machine):
    """A clock that goes on with what the machine has, letters on the way too."""
    require_none_behind(machine)
    clock = Clock(machine.model, changes=machine.changes)
    clock.posts = [post_without_deeds(post) for post in machine.posts]
    clock.wires = [copied_wire(wire) for wire in machine.wires]
    for wire in clock.wires:
        wire.came = wire.sent
    return clock


def post_without_deeds(post):
    """Another post that has the same but for deeds and marks."""
    return Post(post.cells, post.rings, post.taken)


def sends_along(machine, line):
    """The out on which each handler of a road by delays sends, by its (place, rank)."""
    words = words_by(machine, "delays")
    table = soonest_by(machine, every_place(machine), words)
    if is_bare(machine, line, bound_by(machine, line, table, words)):
        return {}
    road = road_to(machine, line, words, table)
    lines = [find_line_into(machine.model, place, handlers_of(machine.model[1][place])[rank])
             for place, rank in road[1:]]
    return {key: machine.model[2][by][1] for key, by in zip(road, [*lines, line])}
