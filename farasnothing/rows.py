"""Rows: to which marks stations have to go back if some of them fall.

Where stations stand is a list, by place, of the marks to which they go back, None for those that stay.
"""

from farasnothing.parts import places_of, receiver_of, sender_of
from farasnothing.values import is_integer, is_tuple_of


def row(machine, stations):
    """The greatest row if these stations fall, and the steps that lead to it."""
    marks, steps = brought_back(machine, stations)
    return (row_of(marks), tuple(steps))


def brought_back(machine, stations):
    """Where the stations stand in the end if these fall, and the steps that lead there."""
    marks, steps = fallen(machine, stations)
    pulled = next_pull(machine, marks)
    while pulled is not None:
        line, place, mark = pulled
        marks[place] = mark
        steps.append((machine.model[1][place][0], mark.many, line))
        pulled = next_pull(machine, marks)
    return marks, steps


def shows_row(machine, stations, value):
    """Whether any value is the greatest row if these stations fall, and steps that lead to it."""
    marks, begin = fallen(machine, stations)
    if not is_tuple_of(value, 2) or not is_row(machine, value[0]):
        return False
    told, steps = value
    if not isinstance(steps, tuple) or len(steps) < len(begin):
        return False
    if not all([is_same_step(one, other) for one, other in zip(steps, begin)]):
        return False
    for step in steps[len(begin):]:
        if not goes_back(machine, marks, step):
            return False
    return told == row_of(marks) and next_pull(machine, marks) is None


def fallen(machine, stations):
    """Where the stations stand as these fall, and the steps by which they fall."""
    places = sorted(places_of(machine.model, stations))
    marks = [None for _ in machine.model[1]]
    steps = []
    for place in places:
        marks[place] = machine.posts[place].marked[-1]
        steps.append((machine.model[1][place][0], marks[place].many, None))
    return marks, steps


def next_pull(machine, marks):
    """The first line by which a station has to go back further: (line, place, mark); None if there is none."""
    for line, _ in enumerate(machine.model[2]):
        mark = pull_by(machine, marks, line)
        if mark is not None:
            return (line, sender_of(machine.model, line), mark)
    return None


def pull_by(machine, marks, line):
    """The mark to which the sender of a line has to go back by it, None if it need not."""
    reached = marks[receiver_of(machine.model, line)]
    if line not in machine.unwritten or reached is None:
        return None
    return mark_behind(machine, line, reached, sent_by(machine, marks, line))


def mark_behind(machine, line, reached, sent):
    """The mark to which the sender, which has sent so many letters, goes back if the receiver does to its mark."""
    came = reached.came[line]
    if came < machine.wires[line].came and came < sent:
        sender = sender_of(machine.model, line)
        return [mark for mark in machine.posts[sender].marked if mark.sent[line] <= came][-1]
    return None


def sent_by(machine, marks, line):
    """How many letters the sender of a line has sent on it, by its mark or by what it has now."""
    mark = marks[sender_of(machine.model, line)]
    return machine.wires[line].sent if mark is None else mark.sent[line]


def row_of(marks):
    """The row of stations that stand at these marks."""
    return tuple([None if mark is None else mark.many for mark in marks])


def is_row(machine, value):
    """Whether any value has the form of a row: an integer or None for each station."""
    if not is_tuple_of(value, len(machine.model[1])):
        return False
    return all([many is None or is_integer(many) for many in value])


def is_same_step(value, step):
    """Whether any value is this step; True is no integer there."""
    return value == step and is_integer(value[1])


def goes_back(machine, marks, value):
    """Whether any value is a further step from where the stations stand; if so, its station goes back."""
    if not is_tuple_of(value, 3) or not is_integer(value[1]) or not is_integer(value[2]):
        return False
    station, many, line = value
    if line not in machine.unwritten:
        return False
    place = sender_of(machine.model, line)
    mark = pull_by(machine, marks, line)
    if mark is None or station != machine.model[1][place][0] or many != mark.many:
        return False
    marks[place] = mark
    return True
