"""[2.6]."""

import unittest

from spentframes.errors import BadOrder, BadShape, BadText
from spentframes.makers import chain_order, flat_order
from spentframes.orders import Order
from spentframes.ordertext import order_text, read_order
from tests.helpers import form_orders, raised, wide_order


class OrderTexts(unittest.TestCase):
    def test_texts_by_hand(self):
        self.assertEqual(order_text(Order(1, [])), "(order 1 ())")
        self.assertEqual(order_text(Order(3, [(0, 2), (2, 1), (0, 1)])), "(order 3 ((0 2) (2 1)))")

    def test_texts_lead_back(self):
        for order in form_orders() + [chain_order(24), flat_order(24), wide_order()]:
            read = read_order(order_text(order))
            self.assertTrue(read == order)
            self.assertEqual(order_text(read), order_text(order))

    def test_equal_orders_have_equal_texts(self):
        self.assertEqual(order_text(Order(3, [[1, 2], [0, 1], [0, 2], [0, 1]])), order_text(chain_order(3)))

    def test_pairs_need_not_be_edges(self):
        self.assertTrue(read_order("(order 3 ((1 2) (0 1) (0 2) (1 2)))") == chain_order(3))
        self.assertTrue(read_order("(order 1 ())") == chain_order(1))

    def test_bad_text(self):
        for text, place in (("", 0), ("(order 3 ((0 1)", 15), ("(order 03 ())", 8), ("(order 1 ()) ", 12)):
            self.assertEqual(raised(self, BadText, read_order, text), {"place": place})

    def test_bad_shape(self):
        cases = [("3", ()), ("(order 3)", ()), ("(orders 3 ())", (0,)), ("(order - ())", (1,)), ("(order 3 -)", (2,)),
                 ("(order 3 ((0 1) 5))", (2, 1)), ("(order 3 ((0 1) (0 1 2)))", (2, 1)), ("(net a 0)", (0,)),
                 ("(order 3 ((0 1) (0 a)))", (2, 1, 1)), ("(order 3 ((- 1)))", (2, 0, 0)), ("(order 3 () ())", ())]
        for text, path in cases:
            self.assertEqual(raised(self, BadShape, read_order, text), {"path": path}, text)

    def test_bad_order(self):
        cases = [("(order 0 ())", "states", 0), ("(order 25 ())", "states", 0), ("(order 999999999 ())", "states", 0),
                 ("(order 2 (" + " ".join(["(0 1)"] * 601) + "))", "pairs", 0), ("(order 3 ((0 1) (0 3)))", "pair", 1),
                 ("(order 3 ((0 1) (1 999999999)))", "pair", 1), ("(order 3 ((999999999 0)))", "pair", 0),
                 ("(order 3 ((0 1) (1 0)))", "ring", 0), ("(order 3 ((0 1) (1 2) (2 1)))", "ring", 1),
                 ("(order 3 ((0 2)))", "least", 1)]
        for text, what, at in cases:
            self.assertEqual(raised(self, BadOrder, read_order, text), {"what": what, "at": at}, text)

    def test_text_comes_ahead_of_shape_and_shape_ahead_of_order(self):
        self.assertEqual(raised(self, BadText, read_order, "(order 0 -"), {"place": 10})
        self.assertEqual(raised(self, BadShape, read_order, "(order 0 -)"), {"path": (2,)})
