"""All is taken back to a stamp."""

from farasnothing.boards import letters_on_way
from farasnothing.changing import ever_sent, last_stamp
from farasnothing.drawing import end_picture
from farasnothing.errors import Forgotten
from farasnothing.marking import Mark
from farasnothing.nevers import is_less
from farasnothing.parts import sender_of


def take_back(machine, stamp):
    """Deeds with this stamp or a greater one are taken back, and all that came of them."""
    for place, post in enumerate(machine.posts):
        least = post.marked[0]
        if least.many > deeds_ahead(post, stamp):
            raise Forgotten(machine.model[1][place][0])
    stays = [letters_ahead(machine, line, stamp) for line, _ in enumerate(machine.wires)]
    for post in machine.posts:
        cut_post(machine, post, stamp, stays)
    for wire, many in zip(machine.wires, stays):
        cut_wire(wire, stamp, many)
    end_picture(machine)


def deeds_ahead(post, stamp):
    """How many of the deeds that a station ever took are ahead of a stamp."""
    return len([entry for entry in post.ever if entry[0][0] < stamp])


def letters_ahead(machine, line, stamp):
    """How many of the letters of a line were not sent by deeds with this stamp or a greater one."""
    post = machine.posts[sender_of(machine.model, line)]
    later_deeds = [entry[0] for entry in post.ever[deeds_ahead(post, stamp):]]
    gone = [letter for deed in later_deeds for letter in deed[4] if letter[0] == line]
    return ever_sent(machine.wires[line]) - len(gone)


def cut_post(machine, post, stamp, stays):
    """A station is as it was ahead of the first deed that is taken back, if it has such deeds."""
    many = deeds_ahead(post, stamp)
    if many < len(post.done):
        _, post.cells, post.rings, post.taken = post.ever[many]
        post.done = post.done[:many]
    post.ever = post.ever[:many]
    post.marked = tuple([cut_mark(machine, mark, stamp, stays) for mark in post.marked if mark.many <= many])


def cut_mark(machine, mark, stamp, stays):
    """What is still so of a mark, if of each line so many letters stay."""
    other = Mark(mark.many, mark.cells, mark.rings, mark.taken)
    other.came = {line: min(came, stays[line]) for line, came in mark.came.items()}
    other.hears = {line: lowered(machine.wires[line], heard, stamp, other.came[line])
                   for line, heard in mark.hears.items()}
    other.sent = mark.sent
    return other


def cut_wire(wire, stamp, many):
    """So many letters of a line stay; the others and all notices are gone."""
    on_way = letters_on_way(wire)[:max(many - wire.came, 0)]
    wire.way = [("letter", arrives, worth) for arrives, _, worth in on_way]
    wire.sent = min(wire.sent, many)
    wire.came = min(wire.came, many)
    wire.hears = lowered(wire, wire.hears, stamp, wire.came)
    wire.tells = lowered(wire, wire.tells, stamp, many)
    wire.letters = wire.letters[:many - wire.base]


def lowered(wire, told, stamp, many):
    """What was heard or told, at most the stamp or that of the last one of so many letters, if that is greater."""
    last = last_stamp(wire, many)
    most = stamp if last is None else max(stamp, last)
    return most if is_less(most, told) else told
