"""What stations have and what lines carry, and how an item is taken.

A holder is a Clock or a Machine: it has a model, the changes in their sequence, and by place and number its
posts and wires. An item of a station is (stamp, rank, number, worth).
"""

from farasnothing.changing import ever_sent, letter_stamp
from farasnothing.handling import handle
from farasnothing.parts import find_line_from, find_line_into, find_rank, handlers_of, is_alarm
from farasnothing.stamps import later


class Post:
    """What a station has."""

    def __init__(self, cells, rings, taken):
        self.cells = cells  # a worth for each cell
        self.rings = rings  # for each alarm the stamp at which it rings, None if it is not set
        self.taken = taken  # for each in how many of its letters were taken
        self.done = ()  # its deeds
        self.ever = ()  # (deed, cells, rings, taken) of all that it ever took: the deed, and what it had ahead
        self.marked = ()  # its marks, by how many deeds they have


class Wire:
    """What was sent on a line, each letter as (stamp, number, worth), and what is known of it."""

    def __init__(self):
        self.base = 0  # how many were sent of which nothing is known any more
        self.letters = []  # all further ones that were ever sent, in the sequence of sending
        self.sent = 0  # how many the sender has sent, by what it has now
        self.came = 0  # how many came to the receiver
        self.way = []  # what is on the way
        self.hears = (0, 0)  # what was heard
        self.tells = (0, 0)  # what was told


def new_posts(model):
    """What the stations have in the beginning."""
    return [new_post(model, station) for station in model[1]]


def new_post(model, station):
    """What a station of the model has in the beginning."""
    cells = tuple([cell[1] for cell in station[1]])
    rings = [None] * len(station[4])
    for time, owner, name, _ in model[3]:
        if owner == station[0] and name in station[4]:
            rings[find_rank(station, name)] = (time, 0)
    return Post(cells, tuple(rings), (0,) * len(station[2]))


def first_letters(model, station, name):
    """The first letters of an in, in the sequence in which they are taken, as (stamp, number, worth)."""
    worths = [(item[0], item[3]) for item in model[3] if item[1] == station[0] and item[2] == name]
    return sorted([((time, 0), number, worth) for number, (time, worth) in enumerate(worths)])


def waiting_letters(holder, place, port):
    """The letters that came to an in and were not taken, in the sequence in which they are taken."""
    station = holder.model[1][place]
    name = station[2][port]
    taken = holder.posts[place].taken[port]
    line = find_line_into(holder.model, place, name)
    if line is None:
        return first_letters(holder.model, station, name)[taken:]
    wire = holder.wires[line]
    return wire.letters[taken - wire.base:wire.came - wire.base]


def items_at(holder, place):
    """All items of a station, in their sequence."""
    station = holder.model[1][place]
    rings = holder.posts[place].rings
    items = [(stamp, rank, 0, 0) for rank, stamp in enumerate(rings) if stamp is not None]
    for port, _ in enumerate(station[2]):
        rank = len(station[4]) + port
        letters = waiting_letters(holder, place, port)
        items.extend([(stamp, rank, number, worth) for stamp, number, worth in letters])
    return sorted(items)


def first_item_at(holder, place):
    """The next item of a station, None without one."""
    items = items_at(holder, place)
    return items[0] if items else None


def take_item(holder, place, item):
    """Takes the next item of a station; its letters are sent. Returns the deed."""
    stamp, rank, _, worth = item
    station = holder.model[1][place]
    post = holder.posts[place]
    ahead = (post.cells, post.rings, post.taken)
    cells, sends, alarms, said = handle(holder.model[0], station, post.cells, rank, worth)
    post.cells = cells
    post.rings = rings_behind(station, post.rings, stamp, rank, alarms)
    post.taken = taken_behind(station, post.taken, rank)
    letters = send_all(holder, place, stamp, sends)
    deed = (stamp, station[0], handlers_of(station)[rank], worth, letters, said)
    if len(post.done) == len(post.ever):
        post.ever = (*post.ever, (deed, *ahead))
    post.done = (*post.done, deed)
    return deed


def send_all(holder, place, stamp, sends):
    """Sends letters by an item with this stamp, none on an out without a line: (line, number, stamp, worth) of each."""
    letters = []
    for out, worth in sends:
        line = find_line_from(holder.model, place, out)
        if line is not None:
            arrives, number, sent = send(holder, line, stamp, worth)
            letters.append((line, number, arrives, sent))
    return tuple(letters)


def send(holder, line, stamp, worth):
    """Sends a letter on a line by an item with this stamp; returns it.

    A station that fell and takes an item again sends the same letter again.
    """
    wire = holder.wires[line]
    if wire.sent == ever_sent(wire):
        wire.letters.append((letter_stamp(holder, line, stamp), wire.sent, worth))
    letter = wire.letters[wire.sent - wire.base]
    wire.sent += 1
    return letter


def letters_on_way(wire):
    """The letters that are on the way on a line: (stamp, number, worth)."""
    many = len([told for told in wire.way if told[0] == "letter"])
    begin = wire.came - wire.base
    return wire.letters[begin:begin + many]


def rings_behind(station, rings, stamp, rank, alarms):
    """When the alarms ring behind an item with this stamp whose handler did this to them."""
    behind = list(rings)
    if is_alarm(station, rank):
        behind[rank] = None
    for name, worth in alarms:
        behind[find_rank(station, name)] = None if worth is None else later(stamp, worth)
    return tuple(behind)


def taken_behind(station, taken, rank):
    """How many letters were taken behind an item of the handler with this rank."""
    port = rank - len(station[4])
    return tuple([many + 1 if at == port else many for at, many in enumerate(taken)])


def copied_post(post):
    """Another post with the same content."""
    other = Post(post.cells, post.rings, post.taken)
    other.done = post.done
    other.ever = post.ever
    other.marked = post.marked
    return other


def post_content(post):
    """All that a post has, but for its marks."""
    return (post.cells, post.rings, post.taken, post.done, len(post.ever))


def copied_wire(wire):
    """Another wire with the same content."""
    other = Wire()
    other.base = wire.base
    other.letters = list(wire.letters)
    other.sent = wire.sent
    other.came = wire.came
    other.way = list(wire.way)
    other.hears = wire.hears
    other.tells = wire.tells
    return other


def wire_content(wire):
    """All that a wire has."""
    return (wire.base, wire.letters, wire.sent, wire.came, wire.way, wire.hears, wire.tells)
