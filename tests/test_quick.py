"""[5.7], [5.8], and what they rest on of [5.1], [5.5] and [5.6]."""

import functools
import itertools
import math
import unittest

from spentframes.codes import code_fault, code_length, deep_code
from spentframes.errors import BadCount
from spentframes.makers import chain_order, flat_order
from spentframes.needs import need_of, need_table
from spentframes.orders import Order
from spentframes.plans import plan_of_lengths
from spentframes.quick import fewest_frames, fewest_table, quick_code
from spentframes.rows import all_rows
from tests.helpers import form_orders, raised, wide_order

NO_COUNTS = (-1, 25, 100, True, False, None, "3", 3.0, (3,))


@functools.cache
def rows_over(k):
    return [row for row in all_rows(k) if row]


def meet(one, other):
    least = min(len(one), len(other))
    return one[:least] == other[:least]


@functools.cache
def plan_lengths(k, many):
    """Return the lengths, as sorted tuples, of all plans of so many rows over k frames, found row by row."""
    found = set()

    def go_on(rows, start):
        if len(rows) == many:
            found.add(tuple(sorted(len(row) for row in rows)))
            return
        for at in range(start, len(rows_over(k))):
            if not any(meet(rows_over(k)[at], row) for row in rows):
                go_on(rows + [rows_over(k)[at]], at + 1)

    go_on([], 0)
    return found


def fewest_by_search(order, k):
    """Return the fewest frames of each state with k frames unspent, through the plans of all codes."""
    @functools.cache
    def fewest(state, left):
        covers = order.covers(state)
        if not covers:
            return 0
        best = None
        for lengths in plan_lengths(left, len(covers)):
            for dealt in set(itertools.permutations(lengths)):
                rest = [fewest(cover, left - d) for cover, d in zip(covers, dealt)]
                if None not in rest:
                    spent = max(d + more for d, more in zip(dealt, rest))
                    best = spent if best is None else min(best, spent)
        return best
    return [fewest(state, k) for state in range(order.n)]


def small_orders():
    return [order for order in form_orders() if max(len(order.covers(state)) for state in range(order.n)) <= 4]


class Fewest(unittest.TestCase):
    def test_against_a_search_through_all_codes(self):
        for order in small_orders():
            most = 4 if max(len(order.covers(state)) for state in range(order.n)) <= 3 else 3
            table = fewest_table(order, most)
            for k in range(most + 1):
                self.assertEqual([row[k] for row in table], fewest_by_search(order, k), (order.edges, k))

    def test_form_of_the_table(self):
        for order in form_orders():
            for m in (0, 1, 5):
                table = fewest_table(order, m)
                self.assertIs(type(table), tuple)
                self.assertEqual([(type(row), len(row)) for row in table], [(tuple, m + 1)] * order.n)
                self.assertEqual(fewest_frames(order, m), table[0][m])

    def test_none_exactly_below_the_need(self):
        for order in form_orders() + [wide_order()]:
            needs = need_table(order)
            for state, row in enumerate(fewest_table(order, 9)):
                self.assertEqual([few is None for few in row], [k < needs[state] for k in range(10)])

    def test_never_rises_with_the_frames(self):
        for order in form_orders() + [wide_order()]:
            for state, row in enumerate(fewest_table(order, 24)):
                told = [few for few in row if few is not None]
                self.assertEqual(told, sorted(told, reverse=True))
                self.assertGreaterEqual(told[-1], order.height(state))

    def test_by_hand(self):
        self.assertEqual(fewest_table(chain_order(1), 3), ((0, 0, 0, 0),))
        self.assertEqual(fewest_table(chain_order(1), 0), ((0,),))
        self.assertEqual(fewest_table(chain_order(3), 3), ((None, None, 2, 2), (None, 1, 1, 1), (0, 0, 0, 0)))
        # With two frames the rows (0, 1) and (1, 0) tell two covers, or (0,) and (1,) do.
        self.assertEqual(fewest_table(flat_order(3), 3)[0], (None, None, 1, 1))
        # Of 23 covers each gets a row of 3 of 4 or 5 frames, of 2 of 6 frames, and of 1 of 23 frames.
        self.assertEqual(fewest_table(flat_order(24), 24)[0], (None,) * 4 + (3, 3) + (2,) * 17 + (1, 1))

    def test_needs_just_met_and_just_passed(self):
        for order in form_orders():
            need = need_of(order)
            self.assertIsNotNone(fewest_frames(order, need))
            if need:
                self.assertIsNone(fewest_frames(order, need - 1))

    def test_wrong_counts(self):
        for call in (fewest_table, fewest_frames, quick_code):
            for m in NO_COUNTS:
                self.assertEqual(raised(self, BadCount, call, chain_order(2), m), {"most": 24})


def greatest_lengths(order, table, state, k):
    """Return the greatest length for each cover that [5.7] tells for the fewest of (state, k)."""
    return [max(d for d in range(1, k + 1)
                if table[cover][k - d] is not None and d + table[cover][k - d] <= table[state][k])
            for cover in order.covers(state)]


class QuickCodes(unittest.TestCase):
    def test_a_right_code_of_the_fewest_frames_or_none(self):
        for order in form_orders() + [wide_order()]:
            need = need_of(order)
            for m in sorted({0, 1, 2, 3, need - 1, need, need + 1, need + 4, 23, 24} - {-1}):
                code = quick_code(order, m)
                self.assertIs(code is None, need > m)
                if code is not None:
                    self.assertIsNone(code_fault(code))
                    self.assertTrue(code.order == order)
                    self.assertEqual((code.m, code_length(code)), (m, fewest_frames(order, m)))
                    self.assertLessEqual(code_length(code), code_length(deep_code(order, m)))

    def test_plans_are_dealt_by_the_greatest_lengths(self):
        for order in form_orders() + [wide_order()]:
            for m in (need_of(order), need_of(order) + 2, 24):
                table = fewest_table(order, m)
                for state, k, plan in quick_code(order, m).entries:
                    lengths = greatest_lengths(order, table, state, k)
                    self.assertLessEqual(sum(math.factorial(k - d) for d in lengths), math.factorial(k))
                    self.assertEqual(plan, plan_of_lengths(order, state, k, lengths))

    def test_by_hand(self):
        self.assertEqual(quick_code(chain_order(1), 0).entries, ())
        self.assertEqual(quick_code(chain_order(1), 24).entries, ())
        self.assertEqual(quick_code(chain_order(3), 4).entries, ((0, 4, ((0,),)), (1, 3, ((0,),))))
        order = Order(4, [(0, 1), (0, 2), (1, 3)])
        self.assertEqual(quick_code(order, 3).entries, ((0, 3, ((0,), (1, 0))), (1, 2, ((0,),))))
        self.assertIsNone(quick_code(flat_order(4), 2))
        self.assertIsNone(quick_code(chain_order(2), 0))

    def test_24_states_and_24_frames(self):
        both = Order(24, [(0, a) for a in range(1, 24)] + [(a, b) for a in range(1, 13) for b in range(13, 24)])
        for order, few in ((chain_order(24), 23), (flat_order(24), 1), (both, 2), (wide_order(), 8)):
            code = quick_code(order, 24)
            self.assertIsNone(code_fault(code))
            self.assertEqual((code_length(code), fewest_frames(order, 24)), (few, few))
