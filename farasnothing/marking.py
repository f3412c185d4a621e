"""Marks: what a station had when it wrote it down. A mark is not changed any more."""

from farasnothing.parts import lines_into, lines_out_of


class Mark:
    """What a station had, and by the numbers of its lines which letters came, what was heard, how many were sent."""

    def __init__(self, many, cells, rings, taken):
        self.many = many
        self.cells = cells
        self.rings = rings
        self.taken = taken
        self.came = {}
        self.hears = {}
        self.sent = {}


def write_mark(machine, place):
    """Makes a mark of a station, in the place of one with as many deeds."""
    post = machine.posts[place]
    mark = Mark(len(post.done), post.cells, post.rings, post.taken)
    for line in lines_into(machine.model, place):
        mark.came[line] = machine.wires[line].came
        mark.hears[line] = machine.wires[line].hears
    for line in lines_out_of(machine.model, place):
        mark.sent[line] = machine.wires[line].sent
    post.marked = (*[other for other in post.marked if other.many < mark.many], mark)


def mark_content(mark):
    """All that a mark has."""
    return (mark.many, mark.cells, mark.rings, mark.taken, mark.came, mark.hears, mark.sent)
