"""Orders: tuples as those in the log of a machine, what they do, and their lines in a journal."""

from farasnothing.forms import parts_told, shown_stamp, shown_words

KINDS = {
    "come": ("NUMBER",),
    "take": ("NAME",),
    "note": ("NUMBER",),
    "learn": ("NAME", "WORD"),
    "unite": ("NAME", "NAME"),
    "survey": (),
    "picture": ("NAME ..",),
    "mark": ("NAME",),
    "fall": ("NAME ..",),
    "forget": (),
    "back": ("STAMP",),
    "change": ("STAMP", "NUMBER", "NUMBER"),
}


def is_order(value):
    """Whether any value has the form of an order: a first part that is known, and so many parts."""
    if not isinstance(value, tuple) or not value or not isinstance(value[0], str):
        return False
    return value[0] in KINDS and len(value) == 1 + len(KINDS[value[0]])


def order_told(text):
    """The order that a line tells, None if it has not the form of one."""
    word, *words = text.split(" ")
    parts = parts_told(KINDS[word], words) if word in KINDS else None
    return None if parts is None else (word, *parts)


def order_row(order):
    """The line of an order that was done."""
    shown = [shown_part(kind, part) for kind, part in zip(KINDS[order[0]], order[1:])]
    return " ".join([order[0], *shown])


def shown_part(kind, part):
    """A part of an order, of this kind, as words."""
    if kind == "STAMP":
        return shown_stamp(part)
    if kind == "NAME ..":
        return shown_words(part)
    return str(part)


def give(machine, order):
    """Gives an order to a machine; returns what the machine's method returns."""
    word, *parts = order
    if word == "come":
        return machine.come(parts[0])
    if word == "take":
        return machine.take(parts[0])
    if word == "note":
        return machine.note(parts[0])
    if word == "learn":
        return machine.learn(parts[0], parts[1])
    if word == "unite":
        return machine.unite(parts[0], parts[1])
    if word == "survey":
        return machine.survey()
    if word == "picture":
        return machine.picture(parts[0])
    if word == "mark":
        return machine.mark(parts[0])
    if word == "fall":
        return machine.fall(parts[0])
    if word == "forget":
        return machine.forget()
    if word == "back":
        return machine.back(parts[0])
    return machine.change(parts[0], parts[1], parts[2])
