"""A desk: a keeper that is led by lines, and answers with lines."""

from farasnothing.bounds import bound
from farasnothing.errors import BadLine
from farasnothing.forms import parts_told, shown_stamp, shown_words
from farasnothing.journals import read_journal
from farasnothing.notices import fewest
from farasnothing.orders import order_told
from farasnothing.rows import row
from farasnothing.texts import show_deed


def shown_answer(word, answer):
    """What an order, known by its first part, returned."""
    if word == "come":
        return shown_on_way(answer)
    if word == "note":
        return shown_or_never(answer)
    if word == "take":
        return show_deed(answer)
    if word in ("fall", "forget"):
        return shown_row(answer)
    return "done"


def shown_on_way(told):
    """What came on a line."""
    if told[0] == "letter":
        return f"letter {shown_stamp(told[1])} {told[2]}"
    if told[0] == "notice":
        return f"notice {shown_or_never(told[1])}"
    return "flag"


def shown_or_never(stamp):
    """A stamp, or that it is never."""
    return "never" if stamp is None else shown_stamp(stamp)


def shown_row(marks):
    """A row, with a dash for each station that stays."""
    return shown_words(["-" if many is None else many for many in marks])


def shown_or_dash(parts):
    """Numbers with blanks between, a dash for none."""
    return shown_words(parts) if parts else "-"


def go_by(keeper, many):
    """Goes on; how many items were taken."""
    return str(len(keeper.go(many)))


def undo_by(keeper):
    """Undoes the last step."""
    keeper.undo()
    return "done"


def redo_by(keeper):
    """Does again what was undone last."""
    keeper.redo()
    return "done"


def next_by(keeper, station):
    """The next item of a station."""
    item = keeper.machine_now().next_item(station)
    return "-" if item is None else f"{shown_stamp(item[0])} {item[1]} {item[2]}"


def may_by(keeper, station):
    """Whether a station may take its next item."""
    return "yes" if keeper.machine_now().may_take(station) else "no"


def heard_by(keeper, line):
    """What is heard of a line."""
    return shown_or_never(keeper.machine_now().heard(line))


def promise_by(keeper, line):
    """What a notice on a line would tell."""
    return shown_or_never(keeper.machine_now().promise(line))


def told_by(keeper, line):
    """What was told of a line."""
    return shown_or_never(keeper.machine_now().told(line))


def bound_by_word(keeper, line, by):
    """The bound of a line."""
    return shown_or_never(bound(keeper.machine_now(), line, by))


def fewest_by(keeper, station, most):
    """On which lines notices let a station take its next item."""
    answer = fewest(keeper.machine_now(), station, most)
    return shown_or_dash(answer[1]) if answer[0] == "notices" else answer[0]


def row_by(keeper, stations):
    """The row if stations fall."""
    return shown_row(row(keeper.machine_now(), stations)[0])


def worths_by(keeper, station):
    """The worths of the cells of a station."""
    return shown_or_dash(keeper.machine_now().worths(station))


def said_by(keeper, station):
    """All that a station said."""
    return shown_or_dash([one for deed in keeper.machine_now().deeds_of(station) for one in deed[5]])


# What lines begin with that are no orders: the kinds of their parts, and what they do.
KINDS = {
    "go": ("NUMBER",),
    "undo": (),
    "redo": (),
    "next": ("NAME",),
    "may": ("NAME",),
    "heard": ("NUMBER",),
    "promise": ("NUMBER",),
    "told": ("NUMBER",),
    "bound": ("NUMBER", "KNOWS"),
    "fewest": ("NAME", "NUMBER"),
    "row": ("NAME ..",),
    "worths": ("NAME",),
    "said": ("NAME",),
}
ACTS = {
    "go": go_by,
    "undo": undo_by,
    "redo": redo_by,
    "next": next_by,
    "may": may_by,
    "heard": heard_by,
    "promise": promise_by,
    "told": told_by,
    "bound": bound_by_word,
    "fewest": fewest_by,
    "row": row_by,
    "worths": worths_by,
    "said": said_by,
}


class Desk:
    """Keeps a keeper, and does with it what lines say."""

    def __init__(self, text):
        self.keeper = read_journal(text)

    def say(self, line):
        """Does what a line says; returns the answer."""
        if not isinstance(line, str):
            raise BadLine(line)
        order = order_told(line)
        if order is not None:
            return shown_answer(order[0], self.keeper.do(order))
        word, *words = line.split(" ")
        parts = parts_told(KINDS[word], words) if word in KINDS else None
        if parts is None:
            raise BadLine(line)
        act = ACTS[word]
        return act(self.keeper, *parts)
