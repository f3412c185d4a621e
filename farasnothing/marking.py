"""Marks: what a station had when it wrote it down."""

from farasnothing.parts import lines_into, lines_out_of


class Mark:
    """What a station had, and by the numbers of its lines which letters came, what was heard, how many were sent."""

    def __init__(self, post, came, hears, sent):
        self.many = len(post.done)
        self.cells = post.cells
        self.rings = post.rings
        self.taken = post.taken
        self.came = came
        self.hears = hears
        self.sent = sent


def write_mark(machine, place):
    """Makes a mark of a station, in the place of one with as many deeds."""
    wires = machine.wires
    into = lines_into(machine.model, place)
    came = {line: wires[line].came for line in into}
    hears = {line: wires[line].hears for line in into}
    sent = {line: wires[line].sent for line in lines_out_of(machine.model, place)}
    post = machine.posts[place]
    mark = Mark(post, came, hears, sent)
    post.marked = (*[other for other in post.marked if other.many < mark.many], mark)


def mark_content(mark):
    """All that a mark has."""
    return (mark.many, mark.cells, mark.rings, mark.taken, mark.came, mark.hears, mark.sent)
