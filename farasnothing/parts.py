"""Where the parts of a model stand: places of stations, ranks of handlers, numbers of lines."""

from farasnothing.errors import Behind, NoLine, NoStation
from farasnothing.values import are_different, is_within


def find_place(stations, name):
    """The place of the station with this name, None without one."""
    for place, station in enumerate(stations):
        if station[0] == name:
            return place
    return None


def place_of(model, station):
    """The place of the station that any value names; NoStation if it names none."""
    place = find_place(model[1], station)
    if place is None:
        raise NoStation(station)
    return place


def places_of(model, stations):
    """The places of a tuple of one or more different stations, in the sequence of the tuple."""
    if not isinstance(stations, tuple) or not stations:
        raise NoStation(stations)
    places = [place_of(model, station) for station in stations]
    if not are_different(places):
        raise NoStation(stations)
    return places


def require_none_behind(machine):
    """Raises Behind with the first station that has to take again what it took ahead of a fall."""
    for station, post in zip(machine.model[1], machine.posts):
        if len(post.done) < len(post.ever):
            raise Behind(station[0])


def handlers_of(station):
    """The names of the handlers of a station, by rank."""
    return station[4] + station[2]


def is_alarm(station, rank):
    """Whether the handler with this rank is that of an alarm."""
    return rank < len(station[4])


def find_rank(station, name):
    """The rank of the handler with this name, None without one."""
    for rank, handler in enumerate(handlers_of(station)):
        if handler == name:
            return rank
    return None


def find_line_into(model, place, name):
    """The number of the line to this in of the station at this place, None without one."""
    own = model[1][place][0]
    for number, line in enumerate(model[2]):
        if line[2] == own and line[3] == name:
            return number
    return None


def find_line_from(model, place, name):
    """The number of the line from this out of the station at this place, None without one."""
    own = model[1][place][0]
    for number, line in enumerate(model[2]):
        if line[0] == own and line[1] == name:
            return number
    return None


def sender_of(model, line):
    """The place of the station at which the line begins."""
    return find_place(model[1], model[2][line][0])


def receiver_of(model, line):
    """The place of the station at which the line ends."""
    return find_place(model[1], model[2][line][2])


def lines_into(model, place):
    """The numbers of the lines to a station, ascending."""
    return [line for line, _ in enumerate(model[2]) if receiver_of(model, line) == place]


def lines_out_of(model, place):
    """The numbers of the lines from a station, ascending."""
    return [line for line, _ in enumerate(model[2]) if sender_of(model, line) == place]


def in_rank_of(model, line):
    """The rank of the handler of the in at which the line ends."""
    station = model[1][receiver_of(model, line)]
    return find_rank(station, model[2][line][3])


def is_line_number(model, value):
    """Whether any value is the number of a line of the model."""
    return is_within(value, len(model[2]))


def require_line(model, value):
    """Raises NoLine for any value that is no number of a line."""
    if not is_line_number(model, value):
        raise NoLine(value)


def require_lines(model, value):
    """Raises NoLine for any value that is no tuple of different lines."""
    if not isinstance(value, tuple):
        raise NoLine(value)
    for line in value:
        require_line(model, line)
    if not are_different(value):
        raise NoLine(value)
