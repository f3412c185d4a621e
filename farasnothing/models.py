"""Models: what one is, and which lines lead to and from its stations."""

from farasnothing.errors import BadModel, NoPort
from farasnothing.parts import find_line_from, find_line_into, find_place, place_of
from farasnothing.programs import Names, is_program
from farasnothing.values import are_different, is_count, is_integer, is_name, is_tuple_of, is_within

SMALLEST = 2
GREATEST = 6
MOST_NAMES = 3
MOST_ALARMS = 2
LONGEST_DELAY = 20


def is_model(value):
    """Whether any value is a model."""
    if not is_tuple_of(value, 4):
        return False
    size, stations, lines, first = value
    if not is_integer(size) or not SMALLEST <= size <= GREATEST:
        return False
    return are_stations(size, stations) and are_lines(stations, lines) and are_first(value)


def line_into(model, station, name):
    """The number of the line to an in, None without one."""
    place = place_in(model, station)
    if name not in model[1][place][2]:
        raise NoPort(name)
    return find_line_into(model, place, name)


def line_out_of(model, station, name):
    """The number of the line from an out, None without one."""
    place = place_in(model, station)
    if name not in model[1][place][3]:
        raise NoPort(name)
    return find_line_from(model, place, name)


def require_model(value):
    """Raises BadModel for any value that is no model."""
    if not is_model(value):
        raise BadModel(value)


def place_in(model, station):
    """The place of a station, both any values: BadModel, NoStation."""
    require_model(model)
    return place_of(model, station)


def is_delay(value):
    """Whether any value is a delay that a line may have."""
    return is_within(value, LONGEST_DELAY + 1)


def are_stations(size, value):
    """Whether any value is a tuple of one or more stations with different names."""
    if not isinstance(value, tuple) or not value:
        return False
    if not all([is_station(size, station) for station in value]):
        return False
    return are_different([station[0] for station in value])


def is_station(size, value):
    """Whether any value is a station."""
    if not is_tuple_of(value, 6):
        return False
    name, cells, ins, outs, alarms, blocks = value
    if not is_name(name) or not are_cells(size, cells):
        return False
    if not are_names(ins, MOST_NAMES) or not are_names(outs, MOST_NAMES) or not are_names(alarms, MOST_ALARMS):
        return False
    named = [*[cell[0] for cell in cells], *ins, *outs, *alarms]
    if "it" in named or not are_different(named):
        return False
    if not is_tuple_of(blocks, len(alarms) + len(ins)):
        return False
    names = Names(size, value)
    return all([is_program(names, block) for block in blocks])


def are_cells(size, value):
    """Whether any value is a tuple of cells with names and worths."""
    if not isinstance(value, tuple) or len(value) > MOST_NAMES:
        return False
    return all([is_tuple_of(cell, 2) and is_name(cell[0]) and is_within(cell[1], size) for cell in value])


def are_names(value, most):
    """Whether any value is a tuple of at most so many names."""
    if not isinstance(value, tuple) or len(value) > most:
        return False
    return all([is_name(name) for name in value])


def are_lines(stations, value):
    """Whether any value is a tuple of lines between these stations, none with an end that another one has."""
    if not isinstance(value, tuple) or not all([is_line(stations, line) for line in value]):
        return False
    begins = [(line[0], line[1]) for line in value]
    ends = [(line[2], line[3]) for line in value]
    return are_different(begins) and are_different(ends)


def is_line(stations, value):
    """Whether any value is a line between two of these stations."""
    if not is_tuple_of(value, 5) or not is_delay(value[4]):
        return False
    sender = find_place(stations, value[0])
    receiver = find_place(stations, value[2])
    if sender is None or receiver is None:
        return False
    return value[1] in stations[sender][3] and value[3] in stations[receiver][2]


def are_first(model):
    """Whether a model whose other parts are right has right first letters and alarms."""
    first = model[3]
    if not isinstance(first, tuple) or not all([is_first(model, item) for item in first]):
        return False
    alarms = [(item[1], item[2]) for item in first if is_first_alarm(model, item)]
    return are_different(alarms)


def is_first(model, value):
    """Whether any value is a first letter or a first alarm."""
    if not is_tuple_of(value, 4) or not is_count(value[0]) or not is_within(value[3], model[0]):
        return False
    place = find_place(model[1], value[1])
    if place is None:
        return False
    if is_first_alarm(model, value):
        return value[3] == 0
    return value[2] in model[1][place][2] and find_line_into(model, place, value[2]) is None


def is_first_alarm(model, item):
    """Whether an item of first, at a station of the model, names an alarm."""
    place = find_place(model[1], item[1])
    return item[2] in model[1][place][4]
