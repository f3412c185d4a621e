"""The form of programs: statements, conditions and expressions."""

from farasnothing.values import is_tuple_of, is_within

MOST_STATEMENTS = 6
MOST_SIGNS = 3
DEEPEST = 3
SIGNS = ("+", "-", "*")


class Names:
    """What the statements of a station may name."""

    def __init__(self, size, station):
        self.size = size
        self.cells = tuple([cell[0] for cell in station[1]])
        self.outs = station[3]
        self.alarms = station[4]


def is_program(names, value, depth=1):
    """Whether any value is a program, or a block at this depth, of the station with these names."""
    if not isinstance(value, tuple) or len(value) > MOST_STATEMENTS:
        return False
    return all([is_statement(names, statement, depth) for statement in value])


def is_statement(names, value, depth):
    """Whether any value is a statement that may stand at this depth."""
    if not isinstance(value, tuple) or not value:
        return False
    word = value[0]
    if word in ("if", "repeat"):
        return depth < DEEPEST and is_branch(names, value, depth)
    if word in ("drop", "say"):
        return len(value) == 2 and is_short(names, word, value[1])
    named = named_by(names, word)
    return len(value) == 3 and value[1] in named and is_expression(names, value[2])


def is_short(names, word, value):
    """Whether any value may stand behind drop or say."""
    if word == "drop":
        return value in names.alarms
    return is_expression(names, value)


def named_by(names, word):
    """What a statement with this word, a name and an expression may name."""
    if word == "set":
        return names.cells
    if word == "send":
        return names.outs
    if word == "wait":
        return names.alarms
    return ()


def is_branch(names, value, depth):
    """Whether a tuple that begins with if or repeat is a statement at this depth."""
    if value[0] == "repeat":
        return len(value) == 3 and is_expression(names, value[1]) and is_program(names, value[2], depth + 1)
    if len(value) != 4 or not is_condition(names, value[1]):
        return False
    return is_program(names, value[2], depth + 1) and is_program(names, value[3], depth + 1)


def is_condition(names, value):
    """Whether any value is a condition."""
    if not is_tuple_of(value, 3) or value[0] not in ("=", "<"):
        return False
    return is_expression(names, value[1]) and is_expression(names, value[2])


def is_expression(names, value, signs=MOST_SIGNS):
    """Whether any value is an expression with at most so many signs within one another."""
    if isinstance(value, str):
        return value == "it" or value in names.cells
    if isinstance(value, tuple):
        if len(value) != 3 or value[0] not in SIGNS or not signs:
            return False
        return is_expression(names, value[1], signs - 1) and is_expression(names, value[2], signs - 1)
    return is_within(value, names.size)
