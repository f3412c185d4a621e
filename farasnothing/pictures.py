"""Machines that are made of pictures."""

from farasnothing.boards import first_letters
from farasnothing.errors import BadPicture
from farasnothing.handling import are_worths
from farasnothing.machine import Machine
from farasnothing.marking import write_mark
from farasnothing.models import require_model
from farasnothing.nevers import greater, is_stamp_or_never
from farasnothing.parts import find_line_into, lines_into, lines_out_of, receiver_of, sender_of
from farasnothing.stamps import is_stamp
from farasnothing.values import is_count, is_tuple_of, is_within


def restarted(model, picture, *, knows="delays", roofs=(), changes=()):
    """A machine that has just what a picture has."""
    require_model(model)
    if not is_picture(model, picture):
        raise BadPicture(picture)
    machine = Machine(model, knows=knows, roofs=roofs, changes=changes)
    for line, wire in enumerate(machine.wires):
        fill_wire(wire, letters_there(model, picture, line), picture[1][line], heard_there(model, picture, line),
                  sent_there(model, picture, line))
    for place, part in enumerate(picture[0]):
        fill_post(machine, place, part)
        write_mark(machine, place)
    return machine


def fill_wire(wire, waiting, way, heard, sent):
    """A line has these letters that wait and that are on the way, and its last letter has the stamp that is told."""
    many, last = sent
    letters = [(stamp, number, worth) for number, stamp, worth in [*waiting, *way]]
    if many and not letters:
        # Of the letters that were taken the last one alone still counts.
        letters = [((0, 0) if last is None else last, many - 1, 0)]
    wire.letters = letters
    wire.base = many - len(letters)
    wire.sent = many
    wire.came = many - len(way)
    wire.way = [("letter", stamp, worth) for _, stamp, worth in way]
    wire.hears = heard
    wire.tells = heard if last is None else greater(heard, last)


def fill_post(machine, place, part):
    """A station has what its part of a picture tells."""
    _, cells, alarms, letters, _, _ = part
    station = machine.model[1][place]
    rings = dict(alarms)
    taken = []
    for name in station[2]:
        waiting = [letter for letter in letters if letter[0] == name]
        line = find_line_into(machine.model, place, name)
        came = len(first_letters(machine.model, station, name)) if line is None else machine.wires[line].came
        taken.append(came - len(waiting))
    post = machine.posts[place]
    post.cells = cells
    post.rings = tuple([rings.get(alarm) for alarm in station[4]])
    post.taken = tuple(taken)


def letters_there(model, picture, line):
    """The letters that wait at the end of a line in a picture: (number, stamp, worth)."""
    part = picture[0][receiver_of(model, line)]
    return [letter[1:] for letter in part[3] if letter[0] == model[2][line][3]]


def heard_there(model, picture, line):
    """What was heard of a line in a picture."""
    place = receiver_of(model, line)
    return picture[0][place][4][lines_into(model, place).index(line)]


def sent_there(model, picture, line):
    """How many letters were sent on a line in a picture, and the stamp of the last one."""
    place = sender_of(model, line)
    return picture[0][place][5][lines_out_of(model, place).index(line)]


def is_picture(model, value):
    """Whether any value has the form of a picture of the model."""
    if not is_tuple_of(value, 2):
        return False
    parts, ways = value
    if not is_tuple_of(parts, len(model[1])) or not is_tuple_of(ways, len(model[2])):
        return False
    if not all([is_part(model, place, part) for place, part in enumerate(parts)]):
        return False
    if not all([is_way(model, way) for way in ways]):
        return False
    return all([are_letters_of(model, value, line) for line, _ in enumerate(ways)])


def is_part(model, place, value):
    """Whether any value has the form of what the station at a place writes down."""
    if not is_tuple_of(value, 6):
        return False
    station = model[1][place]
    many, cells, alarms, letters, heard, sent = value
    if not is_count(many) or not are_worths(model[0], station, cells) or not are_alarms(station, alarms):
        return False
    if not isinstance(letters, tuple) or not all([is_waiting(model, station, letter) for letter in letters]):
        return False
    if not all([are_first(model, place, name, letters) for name in station[2]]):
        return False
    if not is_tuple_of(heard, len(lines_into(model, place))) or not is_tuple_of(sent, len(lines_out_of(model, place))):
        return False
    return all([is_stamp_or_never(stamp) for stamp in heard]) and all([is_sent(pair) for pair in sent])


def are_alarms(station, value):
    """Whether any value is a tuple of (alarm, stamp) in the sequence of the station, each alarm once."""
    if not isinstance(value, tuple) or not all([is_tuple_of(pair, 2) and is_stamp(pair[1]) for pair in value]):
        return False
    told = [pair[0] for pair in value]
    return told == [alarm for alarm in station[4] if alarm in told]


def is_waiting(model, station, value):
    """Whether any value is a letter that waits at an in: (name, number, stamp, worth)."""
    return is_tuple_of(value, 4) and value[0] in station[2] and is_letter(model, value[1:])


def is_letter(model, value):
    """Whether any value is (number, stamp, worth)."""
    return is_tuple_of(value, 3) and is_count(value[0]) and is_stamp(value[1]) and is_within(value[2], model[0])


def is_way(model, value):
    """Whether any value is a tuple of letters."""
    return isinstance(value, tuple) and all([is_letter(model, letter) for letter in value])


def are_first(model, place, name, letters):
    """Whether those of the letters that wait at an in are, if it has no line, the last ones of its first letters."""
    if find_line_into(model, place, name) is not None:
        return True
    told = [(letter[2], letter[1], letter[3]) for letter in letters if letter[0] == name]
    first = first_letters(model, model[1][place], name)
    return told == first[len(first) - len(told):]


def is_sent(value):
    """Whether any value is (many, stamp), the stamp of the last letter or None."""
    return is_tuple_of(value, 2) and is_count(value[0]) and is_stamp_or_never(value[1])


def are_letters_of(model, picture, line):
    """Whether the letters of a line rise, from those that wait to those on the way, and were sent."""
    letters = [*letters_there(model, picture, line), *picture[1][line]]
    many, _ = sent_there(model, picture, line)
    for one, other in zip(letters, letters[1:]):
        if one[0] >= other[0] or one[1] > other[1]:
            return False
    return all([letter[0] < many for letter in letters])
