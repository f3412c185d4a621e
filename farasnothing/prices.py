"""Prices: integers from 1 to 9."""

from farasnothing.values import is_tuple_of, is_within

HIGHEST = 9


def is_price(value):
    """Whether any value is an integer from 1 to 9."""
    return is_within(value, HIGHEST + 1) and value > 0


def are_prices(value, many):
    """Whether any value is a tuple of so many prices."""
    return is_tuple_of(value, many) and all([is_price(price) for price in value])


def price_of(prices, lines):
    """What these lines cost together."""
    return sum([prices[line] for line in lines])


def choices_of(lines):
    """All tuples of some of these lines, in their sequence."""
    choices = [()]
    for line in lines:
        choices = [*choices, *[(*choice, line) for choice in choices]]
    return choices
