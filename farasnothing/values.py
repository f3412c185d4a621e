"""What any value is: integers, names, tuples of so many."""

LETTERS = "abcdefghijklmnopqrstuvwxyz"
LONGEST = 8


def is_integer(value):
    """Whether it is an int that is no bool."""
    return isinstance(value, int) and not isinstance(value, bool)


def is_count(value):
    """Whether it is an integer from 0."""
    return is_integer(value) and value >= 0


def is_within(value, many):
    """Whether it is an integer from 0 below so many."""
    return is_count(value) and value < many


def is_tuple_of(value, many):
    """Whether it is a tuple with so many parts."""
    return isinstance(value, tuple) and len(value) == many


def is_name(value):
    """Whether it is a string of 1 to 8 letters a to z."""
    if not isinstance(value, str) or not 1 <= len(value) <= LONGEST:
        return False
    return all([letter in LETTERS for letter in value])


def are_different(hashables):
    """Whether no two of them, names, numbers or tuples of such, are equal."""
    return len(set(hashables)) == len(hashables)
