"""Changes of delays, and what stamps they give to letters."""

from farasnothing.models import is_delay
from farasnothing.parts import is_line_number
from farasnothing.stamps import is_stamp, later
from farasnothing.values import are_different, is_tuple_of


def are_changes(model, value):
    """Whether any value is a tuple of changes, no two of one line with one stamp."""
    if not isinstance(value, tuple) or not all([is_change(model, change) for change in value]):
        return False
    return are_different([(change[1], change[0]) for change in value])


def is_change(model, value):
    """Whether any value is a change of a line of the model."""
    if not is_tuple_of(value, 3):
        return False
    stamp, line, delay = value
    return is_stamp(stamp) and is_line_number(model, line) and is_delay(delay)


def in_sequence(changes):
    """The changes by lines, those of one line by stamps."""
    return tuple(sorted(changes, key=lambda change: (change[1], change[0])))


def changes_of(holder, line):
    """The changes of one line, by stamps, of a holder that keeps them in their sequence."""
    return [change for change in holder.changes if change[1] == line]


def delay_at(holder, line, stamp):
    """The delay of a letter that an item with this stamp sends on the line."""
    delay = holder.model[2][line][4]
    for change in changes_of(holder, line):
        if change[0] <= stamp:
            delay = change[2]
    return delay


def letter_stamp(holder, line, stamp):
    """The stamp of the next letter on the line, sent by an item with this stamp."""
    return not_overtaking(holder, line, later(stamp, delay_at(holder, line, stamp)))


def arrival(holder, line, stamp):
    """The least stamp of a further letter on the line, sent by an item with this stamp or a greater one."""
    if stamp is None:
        return None
    least = later(stamp, delay_at(holder, line, stamp))
    # Between two changes the delay stays, so letters come first of all at the beginning of such a while.
    for change in changes_of(holder, line):
        if change[0] > stamp:
            least = min(least, later(change[0], change[2]))
    return not_overtaking(holder, line, least)


def not_overtaking(holder, line, stamp):
    """The stamp, or that of the last letter that the sender has sent on the line, if this is greater."""
    last = last_sent(holder, line)
    return stamp if last is None else max(stamp, last)


def last_sent(holder, line):
    """The stamp of the last letter that the sender, by what it has now, has sent on the line, None without one."""
    wire = holder.wires[line]
    return last_stamp(wire, wire.sent)


def last_stamp(wire, many):
    """The stamp of the last one of the first so many letters of a line, None without one."""
    if not many:
        return None
    return wire.letters[many - wire.base - 1][0] if many > wire.base else (0, 0)


def ever_sent(wire):
    """How many letters were ever sent on a line, but for those that were taken back."""
    return wire.base + len(wire.letters)
