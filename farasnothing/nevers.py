"""Stamps that may be None, which means never and counts as greater than all stamps."""

from farasnothing.stamps import is_stamp


def greater(one, other):
    """The greater one of two stamps or nevers."""
    if one is None or other is None:
        return None
    return max(one, other)


def least_of(stamps):
    """The least of a list of stamps or nevers, never without any."""
    told = [stamp for stamp in stamps if stamp is not None]
    return min(told) if told else None


def is_less(one, other):
    """Whether the first one of two stamps or nevers is less than the second one."""
    if one is None:
        return False
    return other is None or one < other


def is_stamp_or_never(value):
    """Whether any value is a stamp or None."""
    return value is None or is_stamp(value)
