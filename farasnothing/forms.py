"""The forms of the words of texts: numbers, stamps, names, words of knowing."""

from farasnothing.settings import WORDS
from farasnothing.values import is_name

DIGITS = "0123456789"
MOST_DIGITS = 9


def number_told(text):
    """The number that a word tells, None if it has not the form of one."""
    if not 1 <= len(text) <= MOST_DIGITS or not all([sign in DIGITS for sign in text]):
        return None
    if text[0] == "0" and text != "0":
        return None
    return int(text)


def stamp_told(text):
    """The stamp that a word tells, None if it has not the form of one."""
    time, _, turn = text.partition(".")
    stamp = (number_told(time), number_told(turn))
    return None if None in stamp else stamp


def name_told(text):
    """The name that a word tells, None if it is none."""
    return text if is_name(text) else None


def word_told(text):
    """The word of knowing that a word tells, None if it is none."""
    return text if text in WORDS else None


def by_told(text):
    """The word of knowing that a word tells, or known; None if it is neither."""
    return text if text == "known" else word_told(text)


TOLD = {"NUMBER": number_told, "STAMP": stamp_told, "NAME": name_told, "WORD": word_told, "KNOWS": by_told}


def part_told(kind, text):
    """The part of this kind that a word tells, None if it has not the form of one."""
    told = TOLD[kind]
    return told(text)


def parts_told(kinds, words):
    """The tuple of parts of these kinds that words tell, None if they have not the form.

    A kind with .. behind it, as NAME .., stands alone: its parts are one or more, and they are one tuple.
    """
    if len(kinds) == 1 and kinds[0].endswith(" .."):
        parts = tuple([part_told(kinds[0][:-3], word) for word in words])
        return None if not parts or None in parts else (parts,)
    if len(words) != len(kinds):
        return None
    parts = tuple([part_told(kind, word) for kind, word in zip(kinds, words)])
    return None if None in parts else parts


def shown_stamp(stamp):
    """A stamp as a word."""
    return f"{stamp[0]}.{stamp[1]}"


def shown_words(parts):
    """Names and numbers with blanks between."""
    return " ".join([str(part) for part in parts])
