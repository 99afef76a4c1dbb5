"""[5.2]."""

import itertools
import math
import random
import unittest

from spentframes.dealing import deal_rows
from spentframes.makers import chain_order, flat_order
from spentframes.orders import Order
from spentframes.plans import plan_fault, plan_of_lengths
from spentframes.rows import all_rows, begins_row

NO_SEQUENCES = (None, "01", 3, {0: 0}, {0})


def fork():
    """Return an order in which 0 has the covers 1, 4 and 5, and 5 the covers 2 and 3."""
    return Order(6, [(0, 4), (0, 1), (0, 5), (5, 3), (5, 2)])


class Plans(unittest.TestCase):
    def test_right_plans(self):
        self.assertIsNone(plan_fault(fork(), 0, 3, ((0,), (1,), (2,))))
        self.assertIsNone(plan_fault(fork(), 0, 3, [[2, 1, 0], [0, 1], [2, 0]]))
        self.assertIsNone(plan_fault(fork(), 5, 24, [[23], (22,)]))
        self.assertIsNone(plan_fault(fork(), 1, 3, ()))
        self.assertIsNone(plan_fault(fork(), 2, 0, []))

    def test_many(self):
        for plan in NO_SEQUENCES + ((), [(0,)], [(0,), (1,)], [(0,), (1,), (2,), (3,)], [None, None]):
            self.assertEqual(plan_fault(fork(), 0, 4, plan), ("many", -1))
        self.assertEqual(plan_fault(fork(), 1, 4, [()]), ("many", -1))
        self.assertEqual(plan_fault(fork(), 1, 4, None), ("many", -1))

    def test_row(self):
        for row in NO_SEQUENCES + ((), [], (3,), (-1,), (1, 1), (True,), (1, None), ("1",), ((1,),)):
            self.assertEqual(plan_fault(fork(), 0, 3, [(0,), row, (2,)]), ("row", 4), row)
        self.assertEqual(plan_fault(fork(), 0, 3, [(), (), ()]), ("row", 1))
        self.assertEqual(plan_fault(fork(), 5, 1, [(0,), (1,)]), ("row", 3))
        self.assertEqual(plan_fault(chain_order(2), 0, 0, [(0,)]), ("row", 1))

    def test_begins(self):
        for rows in ([(0,), (0,), (1,)], [(0,), (0, 1), (1,)], [(0, 1), [0], (1,)]):
            self.assertEqual(plan_fault(fork(), 0, 3, rows), ("begins", 4))
        self.assertEqual(plan_fault(fork(), 0, 3, [(0,), (1,), [0]]), ("begins", 5))
        self.assertEqual(plan_fault(fork(), 0, 3, [(0,), (1,), [1, 0]]), ("begins", 5))

    def test_the_first_fault_counts(self):
        self.assertEqual(plan_fault(fork(), 0, 3, [(0,), (0,), ()]), ("begins", 4))
        self.assertEqual(plan_fault(fork(), 0, 3, [(0,), (), (0,)]), ("row", 4))
        self.assertEqual(plan_fault(fork(), 0, 3, [(0,), (0,)]), ("many", -1))
        self.assertEqual(plan_fault(fork(), 0, 3, [(0,), (1,), (0, 0)]), ("row", 5))

    def test_against_the_definition(self):
        rows, dice = list(all_rows(3)), random.Random(1)
        order = fork()
        for _ in range(500):
            plan = [dice.choice(rows) for _ in range(3)]
            fault = None
            for at, cover in reversed(list(enumerate(order.covers(0)))):
                if any(begins_row(plan[at], row) or begins_row(row, plan[at]) for row in plan[:at]):
                    fault = ("begins", cover)
                if plan[at] == ():
                    fault = ("row", cover)
            self.assertEqual(plan_fault(order, 0, 3, plan), fault, plan)


class PlansOfLengths(unittest.TestCase):
    def test_they_are_dealt_rows(self):
        order = fork()
        for k in range(5):
            for lengths in itertools.product(range(1, k + 1), repeat=3):
                plan = plan_of_lengths(order, 0, k, lengths)
                self.assertEqual(plan, deal_rows(k, lengths))
                self.assertEqual(plan_of_lengths(order, 0, k, list(lengths)), plan)
                fits = sum(math.factorial(k - length) for length in lengths) <= math.factorial(k)
                self.assertIs(plan is not None, fits)
                if fits:
                    self.assertIsNone(plan_fault(order, 0, k, plan))
                    self.assertEqual([len(row) for row in plan], list(lengths))

    def test_by_hand(self):
        self.assertEqual(plan_of_lengths(fork(), 5, 2, [2, 1]), ((1, 0), (0,)))
        self.assertIsNone(plan_of_lengths(fork(), 5, 1, [1, 1]))
        self.assertEqual(plan_of_lengths(fork(), 1, 0, ()), ())
        self.assertEqual(plan_of_lengths(fork(), 1, 24, []), ())

    def test_24_frames(self):
        order = flat_order(24)
        for lengths in ([1] * 23, [24] * 23, list(range(1, 24)), list(range(24, 1, -1))):
            plan = plan_of_lengths(order, 0, 24, lengths)
            self.assertIsNone(plan_fault(order, 0, 24, plan))
        self.assertEqual(plan_of_lengths(order, 0, 23, [1] * 23), tuple((k,) for k in range(23)))
        self.assertIsNone(plan_of_lengths(order, 0, 22, [1] * 22 + [22]))

    def test_limits_may_be_passed_without_an_error(self):
        order = chain_order(2)
        self.assertEqual(plan_of_lengths(order, 0, 25, [25]), (tuple(range(25)),))
        self.assertIsNone(plan_fault(order, 0, 25, [(24,)]))
        self.assertIsNone(plan_of_lengths(order, 0, 3, [4]))
        self.assertIsNone(plan_of_lengths(order, 0, 3, [-1]))
