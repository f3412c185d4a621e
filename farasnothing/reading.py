"""Models that are read from texts."""

from farasnothing.errors import BadText
from farasnothing.forms import number_told, parts_told
from farasnothing.models import require_model
from farasnothing.programs import DEEPEST, MOST_SIGNS, SIGNS
from farasnothing.values import is_name

SIZE = ("NUMBER",)
STATION = ("NAME",)
CELL = ("NAME", "NUMBER")
PORT = ("NAME",)
LINE = ("NAME", "NAME", "NAME", "NAME", "NUMBER")
FIRST = ("NUMBER", "NAME", "NAME", "NUMBER")
STEP = "  "


class Reader:
    """The lines of a text, and how many of them were read."""

    def __init__(self, text):
        if not isinstance(text, str):
            raise BadText(0)
        self.rows = text.split("\n")
        self.at = 0

    def beneath(self, blanks):
        """What stands behind these blanks on the next line, nothing without such a line."""
        if self.at < len(self.rows) and self.rows[self.at].startswith(blanks):
            return self.rows[self.at][len(blanks):]
        return ""

    def line_told(self, blanks, word, kinds):
        """Reads a line with this word and parts of these kinds; None if the next line is none."""
        first, *words = self.beneath(blanks).split(" ")
        told = parts_told(kinds, words) if first == word else None
        if told is not None:
            self.at += 1
        return told

    def needed(self, told):
        """What was read; BadText with the next line if it is None."""
        if told is None:
            raise BadText(self.at)
        return told

    def every(self, blanks, word, kinds):
        """Reads as many lines with this word as there are; a tuple with the parts of each."""
        found = []
        told = self.line_told(blanks, word, kinds)
        while told is not None:
            found.append(told)
            told = self.line_told(blanks, word, kinds)
        return tuple(found)

    def require_end(self):
        """Raises BadText with the next line if there is one."""
        if self.at < len(self.rows):
            raise BadText(self.at)


def read_model(text):
    """The model that a text tells."""
    reader = Reader(text)
    model = model_told(reader)
    reader.require_end()
    require_model(model)
    return model


def model_told(reader):
    """Reads the lines of a model; the value that they tell."""
    size = reader.needed(reader.line_told("", "size", SIZE))
    stations = []
    named = reader.needed(reader.line_told("", "station", STATION))
    while named is not None:
        stations.append(station_told(reader, named[0]))
        named = reader.line_told("", "station", STATION)
    lines = reader.every("", "line", LINE)
    first = reader.every("", "first", FIRST)
    return (size[0], tuple(stations), lines, first)


def station_told(reader, name):
    """Reads the lines beneath that of a station with this name; the station that they tell."""
    cells = reader.every(STEP, "cell", CELL)
    outs = tuple([told[0] for told in reader.every(STEP, "out", PORT)])
    alarms, rings = handlers_told(reader, "alarm")
    ins, comes = handlers_told(reader, "in")
    return (name, cells, ins, outs, alarms, (*rings, *comes))


def handlers_told(reader, word):
    """Reads the handlers that begin with this word; their names and their programs."""
    names = []
    blocks = []
    told = reader.line_told(STEP, word, PORT)
    while told is not None:
        names.extend(told)
        blocks.append(block_told(reader, 1))
        told = reader.line_told(STEP, word, PORT)
    return tuple(names), tuple(blocks)


def block_told(reader, depth):
    """Reads the statements of a block at this depth."""
    statements = []
    statement = statement_told(reader, depth)
    while statement is not None:
        statements.append(statement)
        statement = statement_told(reader, depth)
    return tuple(statements)


def statement_told(reader, depth):
    """Reads a statement at this depth, with what stands beneath it; None if the next line is none."""
    blanks = STEP * (depth + 1)
    word, _, rest = reader.beneath(blanks).partition(" ")
    if word in ("if", "repeat"):
        head = condition_told(rest) if word == "if" else expression_told(rest)
        if head is None or depth == DEEPEST:
            return None
        reader.at += 1
        return branch_told(reader, depth, word, head)
    told = short_told(word, rest)
    if told is not None:
        reader.at += 1
    return told


def branch_told(reader, depth, word, head):
    """Reads what stands beneath an if or a repeat with this head; the statement."""
    block = block_told(reader, depth + 1)
    if word == "repeat":
        return (word, head, block)
    other = ()
    if reader.line_told(STEP * (depth + 1), "else", ()) is not None:
        first = reader.needed(statement_told(reader, depth + 1))
        other = (first, *block_told(reader, depth + 1))
    return (word, head, block, other)


def short_told(word, rest):
    """The statement of one line that a word and the rest of the line tell, None if they have not the form of one."""
    if word == "say":
        told = expression_told(rest)
        return None if told is None else (word, told)
    if word == "drop":
        return (word, rest) if is_name(rest) else None
    if word not in ("set", "send", "wait"):
        return None
    name, _, further = rest.partition(" ")
    told = expression_told(further)
    return (word, name, told) if is_name(name) and told is not None else None


def condition_told(text):
    """The condition that a text tells, None if it has not the form of one."""
    for sign in ("=", "<"):
        left, found, right = text.partition(f" {sign} ")
        if found:
            one = expression_told(left)
            other = expression_told(right)
            return None if one is None or other is None else (sign, one, other)
    return None


def expression_told(text):
    """The expression that a whole text tells, None if it has not the form of one."""
    found = expression_at(text, 0, MOST_SIGNS)
    return found[0] if found is not None and found[1] == len(text) else None


def expression_at(text, at, signs):
    """The expression that begins there, so many signs within one another at most, and its end; None without one."""
    if text[at:at + 1] == "(":
        return bracket_at(text, at, signs)
    end = at
    while end < len(text) and text[end] not in "( )":
        end += 1
    word = text[at:end]
    told = word if is_name(word) else number_told(word)
    return None if told is None else (told, end)


def bracket_at(text, at, signs):
    """The expression in the bracket that begins there, and its end; None without one."""
    left = expression_at(text, at + 1, signs - 1) if signs else None
    if left is None:
        return None
    sign = text[left[1] + 1:left[1] + 2]
    if sign not in SIGNS or text[left[1]:left[1] + 3] != f" {sign} ":
        return None
    right = expression_at(text, left[1] + 3, signs - 1)
    if right is None or text[right[1]:right[1] + 1] != ")":
        return None
    return ((sign, left[0], right[0]), right[1] + 1)
