"""Texts of orders."""

from spentframes.datatext import data_text
from spentframes.orders import Order
from spentframes.shapes import read_shaped

_ORDER_SHAPE = (
    "parts", ("the", "order"), ("whole", 0, 999999999),
    ("row", ("parts", ("whole", 0, 999999999), ("whole", 0, 999999999))))


def order_text(order):
    """Return the text of an order."""
    return data_text(("order", order.n, order.edges))


def read_order(text):
    """Return the order of a text; its pairs need not be edges."""
    _, n, pairs = read_shaped(text, _ORDER_SHAPE)
    return Order(n, pairs)
