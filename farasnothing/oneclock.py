"""A model that is run by one clock: of all that waits the first item is taken next."""

from farasnothing.boards import Wire, first_item_at, items_at, new_posts, take_item
from farasnothing.changing import are_changes, in_sequence
from farasnothing.errors import BadChanges, BadCount, Over
from farasnothing.models import require_model
from farasnothing.parts import handlers_of, place_of
from farasnothing.values import is_count


class Clock:
    """All that waits in a model, and what was taken so far."""

    def __init__(self, model, *, changes=()):
        require_model(model)
        if not are_changes(model, changes):
            raise BadChanges(changes)
        self.model = model
        self.changes = in_sequence(changes)
        self.posts = new_posts(model)
        self.wires = [Wire() for _ in model[2]]
        self.deeds = ()

    def __eq__(self, other):
        if not isinstance(other, Clock):
            return False
        return self.content() == other.content()

    def content(self):
        """All that makes clocks equal."""
        names = tuple([station[0] for station in self.model[1]])
        cells = tuple([post.cells for post in self.posts])
        return (names, self.deeds, cells, self.all_items())

    def worths(self, station):
        """The worths of the cells of a station."""
        return self.posts[place_of(self.model, station)].cells

    def all_items(self):
        """All items, in their sequence, as (stamp, station, name, worth)."""
        items = []
        for place, _ in enumerate(self.posts):
            items.extend([(item[0], place, item) for item in items_at(self, place)])
        return tuple([self.item_told(place, item) for _, place, item in sorted(items)])

    def item_told(self, place, item):
        """An item of the station at a place, as (stamp, station, name, worth)."""
        stamp, rank, _, worth = item
        station = self.model[1][place]
        return (stamp, station[0], handlers_of(station)[rank], worth)

    def first_place(self):
        """The place of the station that has the first item of all, None without an item."""
        firsts = [(first_item_at(self, place), place) for place, _ in enumerate(self.posts)]
        stamps = [(item[0], place) for item, place in firsts if item is not None]
        return min(stamps)[1] if stamps else None

    def step(self):
        """Takes the first item; returns the deed."""
        place = self.first_place()
        if place is None:
            raise Over()
        deed = take_item(self, place, first_item_at(self, place))
        for wire in self.wires:
            wire.came = wire.sent
        self.deeds = (*self.deeds, deed)
        return deed

    def run(self, many):
        """Takes at most so many further items, deed by deed."""
        if not is_count(many):
            raise BadCount(many)
        for _ in range(many):
            if self.first_place() is None:
                return
            yield self.step()
