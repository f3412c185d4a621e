"""Stamps: tuples (time, turn) that are compared as tuples."""

from farasnothing.errors import BadDelay, BadStamp
from farasnothing.values import is_count, is_tuple_of


def is_stamp(value):
    """Whether any value is a stamp."""
    return is_tuple_of(value, 2) and is_count(value[0]) and is_count(value[1])


def later(stamp, delay):
    """The stamp of what the stamp causes with this delay."""
    require_both(stamp, delay)
    time, turn = stamp
    if delay:
        return (time + delay, 0)
    return (time, turn + 1)


def ahead_of(stamp, delay):
    """The least stamp whose later by this delay is the stamp or a greater one."""
    require_both(stamp, delay)
    time, turn = stamp
    if not delay:
        return (time, max(turn - 1, 0))
    # Behind a delay each turn is 0, so a stamp with a turn is reached by the next time alone.
    least = time - delay + (1 if turn else 0)
    return (max(least, 0), 0)


def require_both(stamp, delay):
    """Raises the error of what is no stamp or no delay."""
    if not is_stamp(stamp):
        raise BadStamp(stamp)
    if not is_count(delay):
        raise BadDelay(delay)
