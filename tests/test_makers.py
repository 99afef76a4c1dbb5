"""[1.6]."""

import itertools
import unittest

from spentframes.errors import BadMake
from spentframes.makers import (
    beside_order, chain_order, facts_order, flat_order, product_order, renamed_order, stacked_order, upper_order,
    without_state, words_order)
from spentframes.orders import Order
from tests.helpers import form_orders, raised

NO_WHOLES = (True, False, None, "1", 1.0, (1,), -1)


def table(order):
    """Return all couples (a, b) with a at most b."""
    return [(a, b) for a, b in itertools.product(range(order.n), repeat=2) if order.at_most(a, b)]


def small_orders():
    return [order for order in form_orders() if order.n <= 5]


class Makers(unittest.TestCase):
    def refused(self, what, at, call, *given):
        self.assertEqual(raised(self, BadMake, call, *given), {"what": what, "at": at})

    def check_table(self, order, n, at_most):
        """Check the order's states and what is at most what against a function."""
        self.assertEqual(order.n, n)
        for a, b in itertools.product(range(n), repeat=2):
            self.assertEqual(order.at_most(a, b), at_most(a, b), (a, b))


class ChainsAndFlats(Makers):
    def test_chains(self):
        for n in range(1, 25):
            self.assertEqual(chain_order(n).n, n)
            self.assertEqual(chain_order(n).edges, tuple((k, k + 1) for k in range(n - 1)))

    def test_flat_orders(self):
        for n in range(1, 25):
            self.assertEqual(flat_order(n).n, n)
            self.assertEqual(flat_order(n).edges, tuple((0, k) for k in range(1, n)))

    def test_states(self):
        for call in (chain_order, flat_order):
            for n in (0, 25, 1000) + NO_WHOLES:
                self.refused("states", 0, call, n)


class Facts(Makers):
    def test_all_sets_that_keep_the_rules_by_size_then_ascending(self):
        cases = [(0, []), (1, []), (3, []), (4, [(0, 1), [2, 3]]), (4, [(3, 0), (0, 3)]), (3, [(1, 1)]),
                 (5, [(k + 1, k) for k in range(4)]), (8, [(k, 7 - k) for k in range(8)]), (4, ((0, 1), (1, 2)))]
        for facts, rules in cases:
            order, sets = facts_order(facts, rules)
            wanted = [kept for size in range(facts + 1) for kept in itertools.combinations(range(facts), size)
                      if all(a not in kept or b in kept for a, b in rules)]
            self.assertEqual(sets, tuple(wanted))
            self.check_table(order, len(sets), lambda a, b: set(sets[a]) <= set(sets[b]))

    def test_an_example_by_hand(self):
        order, sets = facts_order(3, [[1, 0]])
        self.assertEqual(sets, ((), (0,), (2,), (0, 1), (0, 2), (0, 1, 2)))
        self.assertEqual(order.edges, ((0, 1), (0, 2), (1, 3), (1, 4), (2, 4), (3, 5), (4, 5)))

    def test_no_facts_and_eight_facts(self):
        self.assertEqual(facts_order(0, []), (Order(1, []), ((),)))
        order, sets = facts_order(8, [(k + 1, k) for k in range(7)])
        self.assertEqual((order.n, sets[-1]), (9, tuple(range(8))))

    def test_many(self):
        self.assertEqual(facts_order(4, [])[0].n, 16)
        self.refused("many", 0, facts_order, 5, [])
        self.refused("many", 0, facts_order, 8, [])
        two_chains = [(1, 0), (2, 1), (3, 2), (5, 4), (6, 5), (7, 6)]
        self.refused("many", 0, facts_order, 8, two_chains)
        self.assertEqual(facts_order(7, two_chains[:5])[0].n, 20)
        self.assertEqual(facts_order(8, [(1, 0), (2, 1), (4, 3), (5, 4), (6, 5), (6, 2), (7, 6)])[0].n, 18)
        self.assertEqual(facts_order(5, [(1, 0), (3, 2)])[0].n, 18)
        self.assertEqual(facts_order(6, [(1, 0), (3, 2), (5, 4), (5, 2)])[0].n, 24)
        self.refused("many", 0, facts_order, 6, [(1, 0), (3, 2), (5, 4)])

    def test_facts(self):
        for facts in (9,) + NO_WHOLES:
            self.refused("facts", 0, facts_order, facts, None)

    def test_rules(self):
        for rules in (None, "ab", {}, {(0, 1)}, 3):
            self.refused("rules", 0, facts_order, 2, rules)
        self.assertEqual(facts_order(2, [(0, 1)] * 64)[0].n, 3)
        self.refused("rules", 0, facts_order, 2, [(0, 1)] * 65)
        self.refused("rules", 0, facts_order, 2, [(0, 7)] * 65)

    def test_rule(self):
        for rule in ((0, 5), (5, 0), (-1, 0), (0,), (0, 1, 2), "01", None, (True, 0), (0, False), {0: 1, 1: 2}):
            self.refused("rule", 1, facts_order, 5, [(0, 0), rule, None])
        self.refused("rule", 0, facts_order, 0, [(0, 0)])


class Words(Makers):
    def test_all_words_by_length_then_ascending(self):
        for letters, depth in ((1, 0), (1, 5), (2, 1), (2, 2), (2, 3), (3, 2), (4, 2), (23, 1), (1, 23), (23, 0), (5, 1)):
            order, words = words_order(letters, depth)
            wanted = [word for length in range(depth + 1) for word in itertools.product(range(letters), repeat=length)]
            self.assertEqual(words, tuple(wanted))
            self.check_table(order, len(words), lambda a, b: words[b][:len(words[a])] == words[a])

    def test_24_states_and_more(self):
        self.assertEqual(words_order(23, 1)[0], flat_order(24))
        self.assertEqual(words_order(1, 23)[0], chain_order(24))
        for letters, depth in ((2, 4), (3, 3), (5, 2), (23, 2), (23, 23), (2, 23)):
            self.refused("many", 0, words_order, letters, depth)

    def test_letters(self):
        for letters in (0, 24) + NO_WHOLES:
            self.refused("letters", 0, words_order, letters, None)

    def test_depth(self):
        for depth in (24,) + NO_WHOLES:
            self.refused("depth", 0, words_order, 23, depth)
            self.refused("depth", 0, words_order, 1, depth)


class TwoOrders(Makers):
    def test_products(self):
        for one, other in itertools.product(small_orders(), repeat=2):
            n = one.n * other.n
            if n > 24:
                self.refused("many", 0, product_order, one, other)
                continue

            def at_most(a, b):
                return one.at_most(a // other.n, b // other.n) and other.at_most(a % other.n, b % other.n)
            self.check_table(product_order(one, other), n, at_most)

    def test_products_of_24_and_25_states(self):
        self.assertEqual(product_order(chain_order(4), flat_order(6)).n, 24)
        self.assertEqual(product_order(flat_order(24), chain_order(1)), flat_order(24))
        self.refused("many", 0, product_order, chain_order(5), flat_order(5))

    def test_orders_beside_one_another(self):
        for one, other in itertools.product(small_orders(), repeat=2):
            def at_most(a, b):
                if a == 0 or (a < one.n) == (b < one.n) == True:
                    return a == 0 or one.at_most(a, b)
                return a >= one.n and b >= one.n and other.at_most(a - one.n + 1, b - one.n + 1)
            self.check_table(beside_order(one, other), one.n + other.n - 1, at_most)

    def test_24_states_beside_and_25(self):
        self.assertEqual(beside_order(flat_order(12), flat_order(13)), flat_order(24))
        self.assertEqual(beside_order(chain_order(24), chain_order(1)), chain_order(24))
        self.refused("many", 0, beside_order, flat_order(13), flat_order(13))

    def test_stacked_orders(self):
        for one, other in itertools.product(small_orders(), repeat=2):
            def at_most(a, b):
                if b < one.n:
                    return a < one.n and one.at_most(a, b)
                return a < one.n or other.at_most(a - one.n, b - one.n)
            self.check_table(stacked_order(one, other), one.n + other.n, at_most)

    def test_24_stacked_states_and_25(self):
        self.assertEqual(stacked_order(chain_order(11), chain_order(13)), chain_order(24))
        self.refused("many", 0, stacked_order, chain_order(12), chain_order(13))


class OneOrder(Makers):
    def test_without_a_state(self):
        for order in form_orders():
            for state in range(1, order.n):
                kept = [k for k in range(order.n) if k != state]
                made = without_state(order, state)
                self.check_table(made, order.n - 1, lambda a, b: order.at_most(kept[a], kept[b]))

    def test_without_24(self):
        self.assertEqual(without_state(chain_order(24), 7), chain_order(23))

    def test_renamed(self):
        for order in form_orders():
            for names in itertools.islice(itertools.permutations(range(1, order.n)), 0, 50, 7):
                names = (0,) + names
                wanted = sorted((names[a], names[b]) for a, b in table(order))
                self.assertEqual(table(renamed_order(order, names)), wanted)
                self.assertEqual(renamed_order(order, list(names)), renamed_order(order, names))

    def test_upper_orders(self):
        for order in form_orders():
            for state in range(order.n):
                upper, kept = upper_order(order, state)
                self.assertEqual(kept, (state,) + order.above(state))
                self.assertIs(type(kept), tuple)
                self.check_table(upper, len(kept), lambda a, b: order.at_most(kept[a], kept[b]))

    def test_the_upper_order_of_a_state_below_a_lesser_number(self):
        order = Order(5, [(0, 4), (4, 1), (4, 2), (0, 3)])
        self.assertEqual(upper_order(order, 4), (Order(3, [(0, 1), (0, 2)]), (4, 1, 2)))

    def test_state(self):
        order = chain_order(5)
        for state in (5, 99) + NO_WHOLES:
            self.refused("state", 0, upper_order, order, state)
            self.refused("state", 0, without_state, order, state)
        self.refused("state", 0, without_state, order, 0)
        self.refused("state", 0, without_state, chain_order(1), 1)
        self.assertEqual(upper_order(order, 0), (order, (0, 1, 2, 3, 4)))
        self.assertEqual(without_state(order, 4), chain_order(4))

    def test_names(self):
        order = chain_order(4)
        for names in (None, "0123", {0: 0, 1: 1, 2: 2, 3: 3}, {0, 1, 2, 3}, (0, 1, 2), (0, 1, 2, 3, 3), (0, 1, 2, 2),
                      (0, 1, 2, 4), (0, True, 2, 3), (False, 1, 2, 3), (1, 0, 2, 3), (0, 1, 2, "3"), (0, 1, 2, -1), (),
                      (0, 1, 2, None), (0, 2, 3, [1])):
            self.refused("names", 0, renamed_order, order, names)

    def test_the_names_are_not_changed(self):
        names = [0, 2, 1]
        self.assertEqual(renamed_order(chain_order(3), names).edges, ((0, 2), (2, 1)))
        self.assertEqual(names, [0, 2, 1])
