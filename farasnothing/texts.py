"""The texts of models and deeds."""

from farasnothing.errors import BadValue
from farasnothing.forms import shown_stamp
from farasnothing.models import require_model
from farasnothing.parts import handlers_of
from farasnothing.stamps import is_stamp
from farasnothing.values import is_count, is_name, is_tuple_of


def show_model(model):
    """The text of a model."""
    require_model(model)
    return "\n".join(model_rows(model))


def model_rows(model):
    """The lines of the text of a model."""
    size, stations, lines, first = model
    rows = [f"size {size}"]
    for station in stations:
        rows.extend(station_rows(station))
    rows.extend([f"line {sender} {out} {receiver} {port} {delay}" for sender, out, receiver, port, delay in lines])
    rows.extend([f"first {time} {station} {name} {worth}" for time, station, name, worth in first])
    return rows


def station_rows(station):
    """The lines of a station."""
    name, cells, _, outs, alarms, blocks = station
    rows = [f"station {name}"]
    rows.extend([f"  cell {cell} {worth}" for cell, worth in cells])
    rows.extend([f"  out {out}" for out in outs])
    for handler, block in zip(handlers_of(station), blocks):
        rows.append(f"  alarm {handler}" if handler in alarms else f"  in {handler}")
        rows.extend(block_rows(block, "    "))
    return rows


def block_rows(block, blanks):
    """The lines of the statements of a block, each with these blanks ahead of it."""
    rows = []
    for statement in block:
        rows.append(blanks + shown_statement(statement))
        if statement[0] == "repeat":
            rows.extend(block_rows(statement[2], blanks + "  "))
        if statement[0] == "if":
            rows.extend(block_rows(statement[2], blanks + "  "))
            if statement[3]:
                rows.extend([blanks + "else", *block_rows(statement[3], blanks + "  ")])
    return rows


def shown_statement(statement):
    """The line of a statement, without what stands beneath it."""
    word = statement[0]
    if word == "if":
        sign, left, right = statement[1]
        return f"if {shown_expression(left)} {sign} {shown_expression(right)}"
    if word in ("say", "repeat"):
        return f"{word} {shown_expression(statement[1])}"
    if word == "drop":
        return f"drop {statement[1]}"
    return f"{word} {statement[1]} {shown_expression(statement[2])}"


def shown_expression(expression):
    """An expression with a bracket around each sign."""
    if not isinstance(expression, tuple):
        return str(expression)
    sign, left, right = expression
    return f"({shown_expression(left)} {sign} {shown_expression(right)})"


def show_deed(deed):
    """The text of a deed."""
    if not is_deed(deed):
        raise BadValue(deed)
    stamp, station, name, worth, sends, said = deed
    letters = [f" > {line} {number} {shown_stamp(arrives)} {sent}" for line, number, arrives, sent in sends]
    sayings = [f" : {one}" for one in said]
    return "".join([f"{shown_stamp(stamp)} {station} {name} {worth}", *letters, *sayings])


def is_deed(value):
    """Whether any value has the form of a deed, whatever its names and numbers stand for."""
    if not is_tuple_of(value, 6):
        return False
    stamp, station, name, worth, sends, said = value
    if not is_stamp(stamp) or not is_name(station) or not is_name(name) or not is_count(worth):
        return False
    if not isinstance(sends, tuple) or not all([is_letter_sent(letter) for letter in sends]):
        return False
    return isinstance(said, tuple) and all([is_count(one) for one in said])


def is_letter_sent(value):
    """Whether any value has the form of a letter of a deed: (line, number, stamp, worth)."""
    if not is_tuple_of(value, 4) or not is_stamp(value[2]):
        return False
    return is_count(value[0]) and is_count(value[1]) and is_count(value[3])
