"""The fewest notices by which a station can take its next item."""

from farasnothing.boards import first_item_at
from farasnothing.hearing import Listener, place_asked, require_nothing_on_way
from farasnothing.limits import settled, shown_tops


def fewest(machine, station, most):
    """How few notices let a station take its next item, or that more than most are needed, or that none do."""
    place = place_asked(machine, station, most)
    listener = Listener(machine)
    last = settled(listener)
    if not listener.may_take(place, last):
        return ("never", shown_tops(listener, last))
    levels = levels_below(listener, place, most)
    if len(levels) > most:
        return ("more", shown_levels(levels), lines_in_turn(listener, place))
    return ("notices", least_lines(listener, place, len(levels)), shown_levels(levels))


def prospects(machine):
    """For each station whether it has an item, may take it, can by notices, or never."""
    require_nothing_on_way(machine)
    listener = Listener(machine)
    last = settled(listener)
    return tuple([prospect(listener, place, last) for place, _ in enumerate(machine.posts)])


def prospect(listener, place, last):
    """What prospects tells of the station at a place, by what is heard in the end."""
    if first_item_at(listener.machine, place) is None:
        return "none"
    if listener.may_take(place, listener.heard_first()):
        return "goes"
    return "notices" if listener.may_take(place, last) else "never"


def levels_below(listener, place, most):
    """The greatest heard things by ever more notices, as long as the station may not take, up to most."""
    levels = []
    level = [listener.heard_first()]
    while len(levels) <= most and not goes(listener, place, level):
        levels.append(level)
        level = listener.further(level)
    return levels


def goes(listener, place, level):
    """Whether the station may take its next item by some heard things of a level."""
    return any([listener.may_take(place, heard) for heard in level])


def shown_levels(levels):
    """Levels as they are told."""
    return tuple([tuple(level) for level in levels])


def least_lines(listener, place, many):
    """The least tuple of so many lines, as few as can be, on which notices let the station take."""
    heard = listener.heard_first()
    found = []
    for left in range(many - 1, -1, -1):
        enough = [line for line in listener.lines if is_enough(listener, place, listener.noted(heard, line), left)]
        heard = listener.noted(heard, enough[0])
        found.append(enough[0])
    return tuple(found)


def is_enough(listener, place, heard, many):
    """Whether so many notices let the station take its next item by heard things."""
    level = [heard]
    for _ in range(many):
        if goes(listener, place, level):
            return True
        level = listener.further(level)
    return goes(listener, place, level)


def lines_in_turn(listener, place):
    """Lines on which notices let the station take its next item, some number of them, in turn."""
    heard = listener.heard_first()
    found = []
    while not listener.may_take(place, heard):
        for line in listener.lines:
            further = listener.noted(heard, line)
            if further != heard and not listener.may_take(place, heard):
                found.append(line)
                heard = further
    return tuple(found)
