"""Keepers that are read from their journals."""

from farasnothing.errors import BadText, FarError
from farasnothing.keeper import Keeper
from farasnothing.orders import order_told
from farasnothing.reading import Reader, model_told

KNOWS = ("WORD ..",)
ROOF = ("NAME ..",)
UNWRITTEN = ("NUMBER ..",)


def read_journal(text):
    """The keeper whose orders are done one by one."""
    reader = Reader(text)
    model = model_told(reader)
    knows = reader.needed(reader.line_told("", "knows", KNOWS))
    roofs = tuple([told[0] for told in reader.every("", "roof", ROOF)])
    unwritten = reader.line_told("", "unwritten", UNWRITTEN)
    begin = reader.at
    orders = orders_told(reader)
    keeper = Keeper(model, knows=knows[0], roofs=roofs, unwritten=() if unwritten is None else unwritten[0])
    for line, order in enumerate(orders, start=begin):
        do_order(keeper, order, line)
    return keeper


def orders_told(reader):
    """Reads the lines of orders to the end of the text."""
    orders = []
    order = order_told(reader.beneath(""))
    while order is not None:
        orders.append(order)
        reader.at += 1
        order = order_told(reader.beneath(""))
    reader.require_end()
    return orders


def do_order(keeper, order, line):
    """Does the order of a line of a text; BadText with the line if it is refused."""
    try:
        keeper.do(order)
    except FarError:
        raise BadText(line) from None
