"""[14.5]."""

import itertools
import random
import unittest

from spentframes.errors import BadCount, BadGoals, TooFew
from spentframes.makers import beside_order, chain_order, facts_order, flat_order
from spentframes.ordered import chains_or_three, fits_ordered, ordered_pair
from spentframes.orders import Order
from spentframes.pairs import judge_pair, pair_end, pair_round
from tests.helpers import form_orders, raised, random_pairs, wide_order
from tests.test_goals import BAD_COUNTS, BAD_GOALS


def small_orders():
    made = [chain_order(n) for n in (1, 2, 3, 8)] + [flat_order(n) for n in (3, 4, 8)] + [facts_order(3, [])[0]]
    made += [beside_order(chain_order(4), chain_order(5)), Order(5, [(0, 1), (0, 2), (1, 3), (2, 3), (3, 4)])]
    return made + [Order(2 + seed % 7, random_pairs(2 + seed % 7, seed + 500)) for seed in range(60)]


def some_goals(order, seed):
    return None if order.n == 1 else random.Random(seed).sample(range(1, order.n), random.Random(seed).randint(1, order.n - 1))


def apart(order, one, other):
    return not order.at_most(one, other) and not order.at_most(other, one)


def fits(order, m, goals):
    """[14.5], word by word."""
    if goals is None:
        covers = [len(order.covers(state)) for state in range(order.n)]
        return m >= 3 or [order.n == 1, order.n <= 2, covers[0] <= 2 and max(covers[1:], default=0) <= 1][m]
    three = any(apart(order, x, y) and apart(order, y, z) and apart(order, x, z) for x, y, z in itertools.combinations(goals, 3))
    return m >= 3 or [False, len(goals) == 1, not three][m]


class Fitting(unittest.TestCase):
    def test_against_the_words(self):
        seen = set()
        for seed, order in enumerate(small_orders()):
            for m in range(7):
                for goals in (None, some_goals(order, seed)):
                    self.assertIs(fits_ordered(order, m, goals), fits(order, m, goals))
                    seen.add((m, goals is None, fits(order, m, goals)))
        for m in (1, 2):
            self.assertTrue({(m, kind, told) for kind in (True, False) for told in (True, False)} <= seen)

    def test_errors_in_their_order(self):
        order = flat_order(9)
        for call in (fits_ordered, ordered_pair):
            for m in BAD_COUNTS:
                self.assertEqual(raised(self, BadCount, call, order, m, 5), {"most": 6})
            for goals, at in BAD_GOALS:
                if goals is not None:
                    self.assertEqual(raised(self, BadGoals, call, order, 0, goals), {"at": at})
        for goals, at in BAD_GOALS:
            self.assertEqual(raised(self, BadGoals, chains_or_three, order, goals), {"at": at})


class Chains(unittest.TestCase):
    def test_chains_or_three(self):
        words = set()
        for seed, order in enumerate(small_orders()):
            goals = some_goals(order, seed)
            if goals is None:
                continue
            word, *parts = told = chains_or_three(order, goals)
            words.add(word)
            self.assertIs(type(told), tuple)
            self.assertEqual(word == "three", not fits(order, 2, goals))
            if word == "three":
                self.assertEqual((parts, len(parts)), (sorted(set(parts) & set(goals)), 3))
                self.assertTrue(all(apart(order, x, y) for x, y in itertools.combinations(parts, 2)))
            else:
                one, other = parts
                self.assertEqual(sorted(one + other), sorted(goals))
                for chain in (one, other):
                    self.assertEqual((type(chain), list(chain)), (tuple, sorted(chain)))
                    self.assertFalse(any(apart(order, x, y) for x, y in itertools.combinations(chain, 2)))
        self.assertEqual(words, {"chains", "three"})

    def test_ascending_where_the_order_falls(self):
        order = Order(4, [(0, 3), (3, 2), (2, 1)])
        word, one, other = chains_or_three(order, [3, 1, 2])
        self.assertEqual((word, sorted(one + other)), ("chains", [1, 2, 3]))
        self.assertEqual((list(one), list(other)), (sorted(one), sorted(other)))


class Pairs(unittest.TestCase):
    def test_right_where_they_fit(self):
        for seed, order in enumerate(small_orders() + form_orders()[:12]):
            if order.n > 8:
                continue
            for m in range(7):
                for goals in (None, some_goals(order, seed)):
                    if m == 0 or not fits(order, m, goals):
                        self.assertEqual(raised(self, TooFew, ordered_pair, order, m, goals), {})
                        continue
                    pair = ordered_pair(order, m, goals)
                    self.assertEqual((pair.frames, pair.goals), (m, None if goals is None else tuple(sorted(goals))))
                    self.assertTrue(pair.order == order)
                    self.assertIsNone(judge_pair(pair))

    def test_greater_orders(self):
        for order in (chain_order(24), flat_order(24), wide_order(), facts_order(4, [])[0]):
            for m in (3, 4, 6):
                pair = ordered_pair(order, m)
                dice, standing, run = random.Random(m), pair.first(), []
                while order.above(standing[2]):
                    run.append(("rise", dice.choice(order.above(standing[2])[:5])))
                    standing = pair.after(standing, run[-1])
                    for _ in range(dice.randint(0, 40)):
                        deed = dice.choice([deed for deed in pair.deeds_from(standing) if deed[0] == "read"])
                        before, standing = standing, pair.after(standing, deed)
                        self.assertTrue(order.at_most(pair.shown(before), pair.shown(standing)))
                        self.assertTrue(order.at_most(pair.shown(standing), standing[2]))
                for _ in range(800):
                    standing = pair_round(pair, standing)[1]
                self.assertEqual(pair.shown(standing), standing[2])

    def test_goals_of_eight(self):
        for m in range(3, 7):
            pair = ordered_pair(flat_order(9), m, [8, 7, 6, 5, 4, 3, 2, 1])
            self.assertIsNone(judge_pair(pair))
        pair = ordered_pair(chain_order(9), 2, [8, 7, 6, 5, 4, 3, 2, 1])
        self.assertIsNone(judge_pair(pair))
        self.assertEqual(pair_end(pair, [("rise", 8)])[2], 8)

    def test_nothing_passed_is_changed(self):
        goals = [3, 1]
        ordered_pair(flat_order(4), 2, goals)
        self.assertEqual(goals, [3, 1])


if __name__ == "__main__":
    unittest.main()
