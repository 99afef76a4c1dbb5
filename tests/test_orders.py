"""[1.2] to [1.5]."""

import itertools
import unittest

from spentframes.errors import BadOrder
from spentframes.orders import Order, is_course
from tests.helpers import form_orders, forms, raised, wide_order


def lies_below(n, pairs):
    """Return all couples (a, b) such that a chain of pairs leads from a to b, by search."""
    found = set()
    for start in range(n):
        waiting = [start]
        while waiting:
            state = waiting.pop()
            for low, high in pairs:
                if low == state and (start, high) not in found:
                    found.add((start, high))
                    waiting.append(high)
    return found


def courses_by_search(order, state):
    """Return all courses from a state to an end, ascending, by going along the edges."""
    courses, longer = [], [(state,)]
    while longer:
        course = longer.pop()
        covers = [high for low, high in order.edges if low == course[-1]]
        longer += [course + (cover,) for cover in covers]
        if not covers:
            courses.append(course)
    return sorted(courses)


class MadeOrders(unittest.TestCase):
    def test_states_above_and_below_follow_from_chains_of_pairs(self):
        for n, pairs in forms():
            order, less = Order(n, pairs), lies_below(n, pairs)
            self.assertEqual((order.n, len(order)), (n, n))
            for one, other in itertools.product(range(n), repeat=2):
                self.assertIs(order.at_most(one, other), one == other or (one, other) in less)
            for state in range(n):
                self.assertEqual(order.above(state), tuple(k for k in range(n) if (state, k) in less))
                self.assertEqual(order.below(state), tuple(k for k in range(n) if (k, state) in less))

    def test_covers_edges_and_ends(self):
        for n, pairs in forms():
            order, less = Order(n, pairs), lies_below(n, pairs)
            edges = [(a, b) for a, b in less if not any((a, c) in less and (c, b) in less for c in range(n))]
            self.assertEqual(order.edges, tuple(sorted(edges)))
            for state in range(n):
                self.assertEqual(order.covers(state), tuple(sorted(b for a, b in edges if a == state)))
            self.assertEqual(order.ends, tuple(k for k in range(n) if not any(a == k for a, b in edges)))

    def test_an_example_by_hand(self):
        order = Order(5, [[0, 4], (4, 1), (0, 2), (2, 3), (4, 3), (0, 3), (4, 1)])
        self.assertEqual(order.edges, ((0, 2), (0, 4), (2, 3), (4, 1), (4, 3)))
        self.assertEqual(order.covers(0), (2, 4))
        self.assertEqual(order.above(4), (1, 3))
        self.assertEqual(order.below(3), (0, 2, 4))
        self.assertEqual(order.ends, (1, 3))
        self.assertEqual(order.height(0), 2)
        self.assertEqual(list(order.each_course(0)), [(0, 2, 3), (0, 4, 1), (0, 4, 3)])

    def test_heights_and_courses(self):
        for order in form_orders():
            for state in range(order.n):
                courses = courses_by_search(order, state)
                found = list(order.each_course(state))
                self.assertEqual(found, courses)
                self.assertTrue(all(type(course) is tuple for course in found))
                self.assertEqual(order.count_courses(state), len(courses))
                self.assertEqual(order.height(state), max(len(course) for course in courses) - 1)

    def test_one_state_and_24_states(self):
        one = Order(1, ())
        self.assertEqual((one.n, one.edges, one.ends, len(one)), (1, (), (0,), 1))
        self.assertEqual((one.height(0), one.count_courses(0), list(one.each_course(0))), (0, 1, [(0,)]))
        chain = Order(24, [(k, k + 1) for k in range(23)])
        self.assertEqual((chain.height(0), chain.count_courses(0)), (23, 1))
        self.assertEqual(list(chain.each_course(0)), [tuple(range(24))])

    def test_many_courses(self):
        order = wide_order()
        self.assertEqual(order.count_courses(0), 2 * 3 ** 7)
        courses = list(order.each_course(0))
        self.assertEqual(len(courses), 2 * 3 ** 7)
        self.assertEqual(courses, sorted(set(courses)))

    def test_what_is_returned_is_made_of_tuples(self):
        order = Order(4, [[0, 1], [0, 2], [1, 3], [2, 3]])
        things = [order.edges, order.ends, order.covers(0), order.above(0), order.below(3), order.covers(3)]
        self.assertTrue(all(type(thing) is tuple for thing in things))
        self.assertTrue(all(type(edge) is tuple for edge in order.edges))

    def test_the_pairs_are_neither_changed_nor_kept(self):
        pairs = [[0, 1], [1, 2], [0, 2]]
        order = Order(3, pairs)
        self.assertEqual(pairs, [[0, 1], [1, 2], [0, 2]])
        pairs[1][0] = 0
        pairs.append([2, 1])
        self.assertEqual(order.edges, ((0, 1), (1, 2)))
        self.assertEqual(order.above(1), (2,))


class Equality(unittest.TestCase):
    def test_equal_states_and_edges_make_equal_orders(self):
        self.assertTrue(Order(3, [(0, 1), (1, 2)]) == Order(3, [[1, 2], [0, 2], [0, 1], [0, 1]]))
        self.assertFalse(Order(3, [(0, 1), (1, 2)]) != Order(3, ((0, 1), (1, 2))))

    def test_other_edges_or_states_are_unlike(self):
        self.assertFalse(Order(3, [(0, 1), (1, 2)]) == Order(3, [(0, 2), (2, 1)]))
        self.assertFalse(Order(1, []) == Order(2, [(0, 1)]))
        self.assertTrue(Order(3, [(0, 1), (0, 2)]) != Order(3, [(0, 1), (1, 2)]))

    def test_other_things_are_unlike(self):
        order = Order(2, [(0, 1)])
        for thing in (None, 2, (2, ((0, 1),)), ((0, 1),), "order"):
            self.assertFalse(order == thing)
            self.assertTrue(order != thing)


class WrongOrders(unittest.TestCase):
    def check(self, n, pairs, what, at):
        self.assertEqual(raised(self, BadOrder, Order, n, pairs), {"what": what, "at": at})

    def test_states(self):
        for n in (0, -1, 25, True, False, None, "3", 3.0, (3,)):
            self.check(n, None, "states", 0)

    def test_pairs(self):
        for pairs in (None, "ab", {}, {(0, 1)}, 3, {0: 1}):
            self.check(2, pairs, "pairs", 0)
        self.assertEqual(Order(2, [(0, 1)] * 600).edges, ((0, 1),))
        self.check(2, [(0, 1)] * 601, "pairs", 0)
        self.check(2, [(0, 5)] * 601, "pairs", 0)

    def test_pair(self):
        for pair in ((0, 3), (-1, 0), (0,), (0, 1, 2), "01", None, (True, 2), (0, True), (0, 1.0), {0: 1, 1: 2}, ("0", 1)):
            self.check(3, [(0, 1), pair, (9, 9)], "pair", 1)
        self.check(3, ["", (0, 9)], "pair", 0)
        self.check(1, [(0, 1)], "pair", 0)

    def test_pair_comes_ahead_of_ring(self):
        self.check(3, [(1, 1), (0, 3)], "pair", 1)

    def test_ring_with_its_least_state(self):
        self.check(3, [(0, 1), (1, 1), (0, 2)], "ring", 1)
        self.check(5, [(0, 1), (4, 3), (3, 2), (2, 4)], "ring", 2)
        self.check(2, [(0, 1), (1, 0)], "ring", 0)
        self.check(1, [(0, 0)], "ring", 0)
        self.check(6, [(0, 1), (5, 4), (4, 5), (2, 5), (5, 3)], "ring", 4)

    def test_ring_comes_ahead_of_least(self):
        self.check(4, [(2, 3), (3, 2)], "ring", 2)

    def test_least_with_the_least_state_that_is_not_above_0(self):
        self.check(2, [], "least", 1)
        self.check(4, [(0, 1), (2, 3)], "least", 2)
        self.check(4, [(0, 1), (0, 3), (2, 3)], "least", 2)
        self.check(3, [(1, 0), (0, 2)], "least", 1)
        self.check(24, [(0, k) for k in range(1, 23)], "least", 23)


class Courses(unittest.TestCase):
    def test_against_the_covers(self):
        for order in form_orders()[:20]:
            for length in (1, 2, 3):
                for states in itertools.product(range(order.n), repeat=length):
                    right = all(pair in order.edges for pair in zip(states, states[1:]))
                    self.assertIs(is_course(order, states), right)
                    self.assertIs(is_course(order, list(states)), right)

    def test_a_course_may_begin_and_end_anywhere(self):
        order = Order(4, [(0, 1), (1, 2), (2, 3)])
        self.assertTrue(is_course(order, (1, 2)))
        self.assertTrue(is_course(order, (3,)))
        self.assertFalse(is_course(order, (0, 2)))
        self.assertFalse(is_course(order, (2, 1)))
        self.assertFalse(is_course(order, (1, 1)))

    def test_anything_else_is_none(self):
        order = Order(3, [(0, 1), (1, 2)])
        for thing in ((), [], None, "01", 0, {0: 1}, {0, 1}, (0, 3), (-1,), (0, True), (False, 1), (0, 1, None),
                      ("0",), (0, (1,)), (3,), (0, -2)):
            self.assertIs(is_course(order, thing), False, thing)
