"""What the stations of a machine know by, and under which roofs they stand."""

from farasnothing.parts import find_place
from farasnothing.values import are_different, is_tuple_of

WORDS = ("delays", "programs", "states")


def is_word(value):
    """Whether any value is a word of knowing."""
    return value in WORDS


def are_words(model, value):
    """Whether any value is a word of knowing, or a tuple with one for each station."""
    if is_word(value):
        return True
    return is_tuple_of(value, len(model[1])) and all([is_word(word) for word in value])


def words_of(model, knows):
    """A word for each station, from a word for all or a word for each."""
    return knows if isinstance(knows, tuple) else (knows,) * len(model[1])


def is_no_less(word, other):
    """Whether one knows no less by a word than by another one."""
    return WORDS.index(word) >= WORDS.index(other)


def greater_word(word, other):
    """That one of two words by which one knows no less than by the other one."""
    return word if is_no_less(word, other) else other


def are_roofs(model, value):
    """Whether any value is a tuple of tuples of one or more names of stations, no name twice."""
    if not isinstance(value, tuple):
        return False
    named = []
    for roof in value:
        if not isinstance(roof, tuple) or not roof:
            return False
        named.extend([find_place(model[1], name) for name in roof])
    return None not in named and are_different(named)


def roofs_of(model, roofs):
    """All roofs, those of one station too, by their first stations, each in the sequence of the model."""
    told = []
    for station in model[1]:
        roof = roof_of(roofs, station[0])
        in_sequence = tuple([other[0] for other in model[1] if other[0] in roof])
        if in_sequence not in told:
            told.append(in_sequence)
    return tuple(told)


def roof_of(roofs, station):
    """The roof under which a station stands, its own one if none of these is above it."""
    for roof in roofs:
        if station in roof:
            return roof
    return (station,)


def united(model, roofs, station, other):
    """The roofs, with those of the two stations made one."""
    one = roof_of(roofs, station)
    both = (*one, *roof_of(roofs, other))
    rest = [roof for roof in roofs if station not in roof and other not in roof]
    return roofs_of(model, (*rest, both))
