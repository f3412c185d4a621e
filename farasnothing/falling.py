"""Stations that fall and go back to marks, and marks that are forgotten."""

from farasnothing.boards import letters_on_way
from farasnothing.drawing import end_picture
from farasnothing.parts import lines_into, lines_out_of, receiver_of, sender_of
from farasnothing.rows import brought_back, row_of


def fall_back(machine, stations):
    """The stations fall; all that have to go back do so. Returns the row."""
    marks, _ = brought_back(machine, stations)
    for place, mark in enumerate(marks):
        if mark is not None:
            go_to(machine, place, mark)
    end_picture(machine)
    return row_of(marks)


def go_to(machine, place, mark):
    """A station is as it was at its mark."""
    post = machine.posts[place]
    post.cells = mark.cells
    post.rings = mark.rings
    post.taken = mark.taken
    post.done = post.done[:mark.many]
    post.marked = tuple([other for other in post.marked if other.many <= mark.many])
    for line in lines_into(machine.model, place):
        wire = machine.wires[line]
        wire.way = way_behind(machine, line, mark.came[line])
        wire.came = mark.came[line]
        wire.hears = mark.hears[line]
    for line in lines_out_of(machine.model, place):
        machine.wires[line].sent = mark.sent[line]


def way_behind(machine, line, came):
    """What is on the way on a line as its station goes back to a mark by which so many letters came."""
    wire = machine.wires[line]
    lacking = wire.letters[came - wire.base:wire.came - wire.base]
    if lacking and line in machine.unwritten:
        return []
    return [("letter", stamp, worth) for stamp, _, worth in [*lacking, *letters_on_way(wire)]]


def forget_marks(machine):
    """All marks less than those of the greatest row that stands wholly are gone. Returns this row."""
    marks = [post.marked[-1] for post in machine.posts]
    line = first_torn(machine, marks)
    while line is not None:
        sender = sender_of(machine.model, line)
        came = marks[receiver_of(machine.model, line)].came[line]
        marks[sender] = [mark for mark in machine.posts[sender].marked if mark.sent[line] <= came][-1]
        line = first_torn(machine, marks)
    for post, least in zip(machine.posts, marks):
        post.marked = tuple([mark for mark in post.marked if mark.many >= least.many])
    return row_of(marks)


def first_torn(machine, marks):
    """The first line, not written, on which more was sent by these marks than came; None if there is none."""
    for line in machine.unwritten:
        sent = marks[sender_of(machine.model, line)].sent[line]
        if sent > marks[receiver_of(machine.model, line)].came[line]:
            return line
    return None
