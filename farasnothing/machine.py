"""A model whose stations run ahead: each takes its next item when nothing can come ahead of it."""

from farasnothing.actors import new_actors
from farasnothing.boards import Wire, copied_post, copied_wire, first_item_at, items_at, letters_on_way
from farasnothing.boards import new_posts, post_content, take_item, wire_content
from farasnothing.changing import are_changes, in_sequence
from farasnothing.drawing import begin_picture, copied_drawing, draw_flag, draw_letter, drawing_content, end_picture
from farasnothing.errors import BadChanges, BadDelay, BadKnows, BadRoofs, BadStamp, Inner, NoItem, NothingOnWay
from farasnothing.errors import TooEarly, Waits
from farasnothing.falling import fall_back, forget_marks
from farasnothing.knowing import arrives_first, heard_now, is_inner, line_waited_for, surveyed
from farasnothing.marking import mark_content, write_mark
from farasnothing.models import is_delay, require_model
from farasnothing.nevers import greater
from farasnothing.parts import handlers_of, place_of, require_line, require_lines
from farasnothing.returning import take_back
from farasnothing.settings import are_roofs, are_words, is_no_less, is_word, roof_of, roofs_of, united, words_of
from farasnothing.stamps import is_stamp
from farasnothing.touching import Shift, changed


class Machine:
    """What the stations of a model have, what is on the way, and what was heard of the lines."""

    def __init__(self, model, *, knows="delays", roofs=(), unwritten=(), changes=()):
        require_model(model)
        if not are_words(model, knows):
            raise BadKnows(knows)
        if not are_roofs(model, roofs):
            raise BadRoofs(roofs)
        require_lines(model, unwritten)
        if not are_changes(model, changes):
            raise BadChanges(changes)
        self.model = model
        self.knows = words_of(model, knows)
        self.roofs = roofs_of(model, roofs)
        self.unwritten = tuple(sorted(unwritten))
        self.changes = in_sequence(changes)
        self.posts = new_posts(model)
        self.wires = [Wire() for _ in model[2]]
        self.actors = new_actors(model)
        self.drawing = None
        self.drawn = None
        self.log = ()
        for place, _ in enumerate(model[1]):
            write_mark(self, place)

    def __eq__(self, other):
        if not isinstance(other, Machine):
            return False
        return self.content() == other.content()

    def content(self):
        """All that makes machines equal."""
        posts = [post_content(post) for post in self.posts]
        marks = [[mark_content(mark) for mark in post.marked] for post in self.posts]
        wires = [wire_content(wire) for wire in self.wires]
        pictures = (self.drawn, drawing_content(self.drawing))
        return (self.model, self.knows, self.roofs, self.unwritten, self.changes, posts, marks, wires, pictures)

    def copy(self):
        """An independent machine with the same content, its log too."""
        other = Machine(self.model)
        other.knows = self.knows
        other.roofs = self.roofs
        other.unwritten = self.unwritten
        other.changes = self.changes
        other.posts = [copied_post(post) for post in self.posts]
        other.wires = [copied_wire(wire) for wire in self.wires]
        # What actors found of the model holds for each machine of this model.
        other.actors = self.actors
        other.drawing = copied_drawing(self.drawing)
        other.drawn = self.drawn
        other.log = self.log
        return other

    def deeds_of(self, station):
        """The deeds of a station so far."""
        return self.posts[place_of(self.model, station)].done

    def worths(self, station):
        """The worths of the cells of a station."""
        return self.posts[place_of(self.model, station)].cells

    def next_item(self, station):
        """The next item of a station, as (stamp, name, worth), None without one."""
        items = self.waiting(station)
        return items[0] if items else None

    def waiting(self, station):
        """All items of a station, in their sequence, each as (stamp, name, worth)."""
        place = place_of(self.model, station)
        names = handlers_of(self.model[1][place])
        return tuple([(stamp, names[rank], worth) for stamp, rank, _, worth in items_at(self, place)])

    def heard(self, line):
        """The stamp, or never, below which nothing will come on a line besides what came."""
        require_line(self.model, line)
        return heard_now(self, line)

    def told(self, line):
        """The greatest stamp of a letter or notice that was sent on a line."""
        require_line(self.model, line)
        return self.wires[line].tells

    def on_way(self, line):
        """What is on the way on a line, in the sequence of sending."""
        require_line(self.model, line)
        return tuple(self.wires[line].way)

    def come(self, line):
        """The first of what is on the way on a line comes; returns it."""
        require_line(self.model, line)
        wire = self.wires[line]
        if not wire.way:
            raise NothingOnWay(line)
        if wire.way[0][0] == "letter":
            draw_letter(self, line)
            wire.came += 1
        told = wire.way.pop(0)
        if told[0] == "flag":
            draw_flag(self, line)
        else:
            wire.hears = greater(wire.hears, told[1])
        self.log = (*self.log, ("come", line))
        return told

    def may_take(self, station):
        """Whether a station has an item and nothing can come ahead of it."""
        place = place_of(self.model, station)
        item = first_item_at(self, place)
        return item is not None and line_waited_for(self, place, item) is None

    def take(self, station):
        """A station takes its next item, and its letters are on the way; returns the deed."""
        place = place_of(self.model, station)
        item = first_item_at(self, place)
        if item is None:
            raise NoItem(station)
        waits = line_waited_for(self, place, item)
        if waits is not None:
            raise Waits(waits)
        deed = take_item(self, place, item)
        for line, number, stamp, worth in deed[4]:
            # Behind a fall letters that came, or are on the way, are not sent a second time.
            if number == self.wires[line].came + len(letters_on_way(self.wires[line])):
                self.put(line, ("letter", stamp, worth))
        self.log = (*self.log, ("take", station))
        return deed

    def put(self, line, told):
        """A letter or notice is on the way on a line."""
        wire = self.wires[line]
        wire.way.append(told)
        wire.tells = greater(wire.tells, told[1])

    def promise(self, line):
        """The stamp that a notice on a line would tell now, None for never."""
        require_line(self.model, line)
        if is_inner(self, line):
            raise Inner(line)
        return arrives_first(self, line)

    def note(self, line):
        """A notice is sent on a line; returns the stamp that it tells."""
        stamp = self.promise(line)
        self.put(line, ("notice", stamp))
        self.log = (*self.log, ("note", line))
        return stamp

    def learn(self, station, word):
        """A station knows by a word from now on."""
        place = place_of(self.model, station)
        if not is_word(word) or not is_no_less(word, self.knows[place]):
            raise BadKnows(word)
        self.knows = (*self.knows[:place], word, *self.knows[place + 1:])
        self.log = (*self.log, ("learn", station, word))

    def unite(self, station, other):
        """All that stand under the roofs of two stations stand under one."""
        place_of(self.model, station)
        place_of(self.model, other)
        if other not in roof_of(self.roofs, station):
            end_picture(self)
        self.roofs = united(self.model, self.roofs, station, other)
        self.log = (*self.log, ("unite", station, other))

    def survey(self):
        """Everybody is asked: what was heard of each line, and told, becomes its bound, if that is greater."""
        for wire, bound in zip(self.wires, surveyed(self)):
            wire.hears = greater(wire.hears, bound)
            wire.tells = greater(wire.tells, bound)
        self.log = (*self.log, ("survey",))

    def mark(self, station):
        """A station writes down what it has."""
        write_mark(self, place_of(self.model, station))
        self.log = (*self.log, ("mark", station))

    def marks(self, station):
        """How many deeds the marks of a station have, ascending."""
        return tuple([mark.many for mark in self.posts[place_of(self.model, station)].marked])

    def picture(self, stations):
        """A picture of all begins at each of these stations."""
        begin_picture(self, stations)
        self.log = (*self.log, ("picture", stations))

    def fall(self, stations):
        """These stations lose what they have, and all that must go back to marks; returns the row."""
        row_of_marks = fall_back(self, stations)
        self.log = (*self.log, ("fall", stations))
        return row_of_marks

    def behind(self, station):
        """How many deeds a station has to take until it has all that it ever took."""
        post = self.posts[place_of(self.model, station)]
        return len(post.ever) - len(post.done)

    def forget(self):
        """Marks that no fall can need any more are gone; returns the greatest row that stands wholly."""
        row_of_marks = forget_marks(self)
        self.log = (*self.log, ("forget",))
        return row_of_marks

    def back(self, stamp):
        """All is taken back to a stamp."""
        if not is_stamp(stamp):
            raise BadStamp(stamp)
        take_back(self, stamp)
        self.log = (*self.log, ("back", stamp))

    def change(self, stamp, line, delay):
        """From this stamp on letters that are sent on a line take this delay."""
        if not is_stamp(stamp):
            raise BadStamp(stamp)
        require_line(self.model, line)
        if not is_delay(delay):
            raise BadDelay(delay)
        shift = Shift(self, line, delay)
        if not shift.is_let(stamp):
            raise TooEarly(shift.least_let())
        self.changes = changed(self, stamp, line, delay)
        self.log = (*self.log, ("change", stamp, line, delay))
