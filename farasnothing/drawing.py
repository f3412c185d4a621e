"""A picture of all that is drawn while stations run on."""

from farasnothing.boards import items_at, letters_on_way
from farasnothing.changing import last_sent
from farasnothing.errors import UnderWay, Unreached
from farasnothing.knowing import group_of, heard_now, is_inner
from farasnothing.nevers import greater
from farasnothing.parts import handlers_of, is_alarm, lines_into, lines_out_of, places_of
from farasnothing.parts import receiver_of, require_none_behind, sender_of


class Drawing:
    """What is drawn so far of a picture under way."""

    def __init__(self, parts, ways, flagged):
        self.parts = parts  # by place, None of a station that is not drawn yet
        self.ways = ways  # by line, the letters (number, stamp, worth) that belong to it
        self.flagged = flagged  # by line, whether its flag came


def copied_drawing(drawing):
    """Another one with the same content; None of None."""
    if drawing is None:
        return None
    return Drawing(list(drawing.parts), [list(way) for way in drawing.ways], list(drawing.flagged))


def drawing_content(drawing):
    """All that is drawn so far, None without a picture under way."""
    return None if drawing is None else (drawing.parts, drawing.ways, drawing.flagged)


def begin_picture(machine, stations):
    """A picture begins at each of these stations."""
    places = places_of(machine.model, stations)
    missed = first_missed(machine, places)
    if missed is not None:
        raise Unreached(missed)
    require_none_behind(machine)
    if machine.drawing is not None:
        raise UnderWay()
    lines = machine.model[2]
    machine.drawing = Drawing([None for _ in machine.posts], [[] for _ in lines], [False for _ in lines])
    for place in places:
        draw_roof(machine, place)
    end_if_complete(machine)


def first_missed(machine, places):
    """The first station to which neither roofs nor lines lead from these places, None if they lead to all."""
    reached = {place: True for place in places}
    further = list(places)
    while further:
        place = further.pop()
        others = [receiver_of(machine.model, line) for line in lines_out_of(machine.model, place)]
        for other in [*group_of(machine, place), *others]:
            if other not in reached:
                reached[other] = True
                further.append(other)
    for place, station in enumerate(machine.model[1]):
        if place not in reached:
            return station[0]
    return None


def draw_roof(machine, place):
    """All that stand under the roof of a station are drawn, if they are not yet."""
    drawing = machine.drawing
    if drawing.parts[place] is not None:
        return
    group = group_of(machine, place)
    lines = [line for line, _ in enumerate(machine.wires) if sender_of(machine.model, line) in group]
    tell_inner(machine, [line for line in lines if is_inner(machine, line)])
    for other in group:
        drawing.parts[other] = part_of(machine, other)
    for line in lines:
        wire = machine.wires[line]
        if is_inner(machine, line):
            drawing.ways[line] = [(number, stamp, worth) for stamp, number, worth in letters_on_way(wire)]
        else:
            wire.way.append(("flag",))


def tell_inner(machine, lines):
    """What is heard of inner lines is told, so that it holds behind the picture too."""
    bounds = [heard_now(machine, line) for line in lines]
    for line, bound in zip(lines, bounds):
        wire = machine.wires[line]
        wire.hears = greater(wire.hears, bound)
        wire.tells = greater(wire.tells, bound)


def part_of(machine, place):
    """What a station writes down of itself for a picture."""
    station = machine.model[1][place]
    post = machine.posts[place]
    names = handlers_of(station)
    alarms = [(name, stamp) for name, stamp in zip(station[4], post.rings) if stamp is not None]
    letters = [(names[rank], number, stamp, worth) for stamp, rank, number, worth in items_at(machine, place)
               if not is_alarm(station, rank)]
    heard = [machine.wires[line].hears for line in lines_into(machine.model, place)]
    sent = [(machine.wires[line].sent, last_sent(machine, line)) for line in lines_out_of(machine.model, place)]
    return (len(post.done), post.cells, tuple(alarms), tuple(letters), tuple(heard), tuple(sent))


def draw_letter(machine, line):
    """The first letter on the way on a line, which is about to come, belongs to the picture if it must."""
    drawing = machine.drawing
    if drawing is None or is_inner(machine, line) or drawing.flagged[line]:
        return
    if drawing.parts[receiver_of(machine.model, line)] is not None:
        stamp, number, worth = letters_on_way(machine.wires[line])[0]
        drawing.ways[line].append((number, stamp, worth))


def draw_flag(machine, line):
    """A flag comes on a line."""
    draw_roof(machine, receiver_of(machine.model, line))
    machine.drawing.flagged[line] = True
    end_if_complete(machine)


def end_if_complete(machine):
    """The picture is complete when a flag has come on each line that is not inner."""
    drawing = machine.drawing
    waits = [line for line, came in enumerate(drawing.flagged) if not came and not is_inner(machine, line)]
    if not waits:
        machine.drawn = (tuple(drawing.parts), tuple([tuple(way) for way in drawing.ways]))
        machine.drawing = None


def end_picture(machine):
    """A picture under way ends; its flags are gone."""
    machine.drawing = None
    for wire in machine.wires:
        wire.way = [told for told in wire.way if told[0] != "flag"]
