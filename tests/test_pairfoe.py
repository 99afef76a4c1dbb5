"""[14.6]."""

import random
import unittest

from spentframes.errors import TooMany
from spentframes.makers import chain_order, flat_order
from spentframes.ordered import fits_ordered, ordered_pair
from spentframes.orders import Order
from spentframes.outcomes import Above, Back, Stuck
from spentframes.pairfoe import break_pair
from spentframes.pairs import OrderedPair
from spentframes.tables import NodeTable
from tests.helpers import form_orders
from tests.test_pairs import breaks, one_way, table


def counting_source(order, dice, most):
    """Return a table whose source tells a rise by a number of frames, one by one, each when the one before comes back."""
    sends, moves, rises = [[]], [[]], [[]]
    for state in range(1, order.n):
        rises[0].append((state, len(sends)))
        frame = dice.randrange(2)
        for left in range(dice.randint(1, most) - 1, -1, -1):
            moves.append([(0, frame, len(sends) + (left > 0))])
            sends.append([(0, frame)])
            rises.append([])
            frame = 1 - frame
    return NodeTable(sends, moves, rises)


def waiting_sink(order, dice, patience):
    """Return a table whose sink counts new frames and shows a state when the last one has come often enough again."""
    seats, moves = [(0, None, 0)], []
    while len(moves) < len(seats):
        many, last, times = seats[len(moves)]
        row = []
        for frame in (0, 1):
            behind = (many, last, min(times + 1, patience)) if frame == last else (many + 1, frame, 0)
            if behind[0] < order.n:
                if behind not in seats:
                    seats.append(behind)
                row.append((0, frame, seats.index(behind)))
        moves.append(row)
    names = [0] + [dice.randrange(1, order.n) for _ in range(order.n)]
    shows = [names[many] if times == patience else 0 for many, _, times in seats]
    return NodeTable([[] if last is None else [(0, last)] for _, last, _ in seats], moves, None, shows)


def running_tables(order, dice, most):
    """Return tables whose source goes round for ever behind a rise, and whose sink is led by each frame that it reads."""
    sends, moves, rises = [[]], [[]], [[]]
    for state in order.covers(0):
        first, many = len(sends), dice.randint(1, most)
        rises[0].append((state, first))
        for k in range(many):
            sends.append([(0, dice.randrange(2))])
            moves.append([(0, frame, first + (k + 1) % many) for frame in (0, 1)])
            rises.append([])
    n = 30
    leads = [dice.sample(range(n), n) for _ in (0, 1)]
    sink = NodeTable([[(0, dice.randrange(2))] for _ in range(n)], [[(0, f, leads[f][k]) for f in (0, 1)] for k in range(n)],
                     None, [0] * n)
    return NodeTable(sends, moves, rises), sink


class Breaking(unittest.TestCase):
    def check(self, pair):
        found = break_pair(pair)
        if pair.frames > 2 or fits_ordered(pair.order, pair.frames, pair.goals):
            self.assertIsNone(found)
        else:
            self.assertTrue(breaks(pair, found))
        return type(found)

    def test_any_tables(self):
        kinds, orders = set(), [order for order in form_orders()[:20] if order.n < 8]
        for seed in range(4000):
            dice = random.Random(seed)
            order = dice.choice(orders)
            frames = dice.randint(1, 3)
            goals = dice.sample(range(1, order.n), dice.randint(1, order.n - 1)) if order.n > 1 and seed % 3 == 0 else None
            tables = [table(dice, frames, order, dice.randint(1, 9), is_source, 0.9) for is_source in (True, False)]
            kinds.add(self.check(OrderedPair(order, frames, tables, goals)))
        self.assertTrue({type(None), Above, Stuck} <= kinds)

    def test_a_sink_that_turns_back(self):
        source = ordered_pair(flat_order(3), 2).tables[0]
        sink = NodeTable([[], [], []], [[(0, 0, 1), (0, 1, 0)], [(0, 0, 2)], [(0, 0, 1)]], None, [0, 1, 0])
        source = NodeTable(source.sends, source.moves, source.rises[:1] + ((),) * (len(source) - 1))
        self.assertIs(self.check(OrderedPair(Order(4, [(0, 1), (1, 2), (1, 3)]), 2, [source, sink])), Back)

    def test_pairs_that_count(self):
        for seed in range(500):
            dice = random.Random(seed)
            order = dice.choice([flat_order(4), flat_order(5), Order(4, [(0, 1), (1, 2), (1, 3)])])
            goals = [1, 2, 3] if order.n == 5 and seed % 2 else None
            tables = [counting_source(order, dice, 4), waiting_sink(order, dice, dice.randint(1, 3))]
            self.check(OrderedPair(order, 2, tables, goals))

    def test_sources_that_run_on(self):
        for seed in range(40):
            dice = random.Random(seed)
            order = flat_order(4)
            self.check(OrderedPair(order, 2, running_tables(order, dice, 9)))

    def test_right_pairs_of_other_orders(self):
        # Tables that keep a chain, or two, are given a state too many.
        for order, more in ((chain_order(3), Order(4, [(0, 1), (1, 2), (1, 3)])), (flat_order(3), flat_order(4)),
                            (chain_order(4), Order(5, [(0, 1), (1, 2), (2, 3), (2, 4)]))):
            tables = ordered_pair(order, 2).tables
            self.assertIsNot(self.check(OrderedPair(more, 2, tables)), type(None))
        tables = ordered_pair(chain_order(2), 1).tables
        for order in (chain_order(3), flat_order(3)):
            self.assertIsNot(self.check(OrderedPair(order, 1, tables)), type(None))
        self.assertIsNot(self.check(OrderedPair(flat_order(3), 1, tables, [1, 2])), type(None))
        self.assertIsNot(self.check(OrderedPair(chain_order(3), 1, tables, [1, 2])), type(None))

    def test_nothing_to_break(self):
        self.assertIsNone(break_pair(one_way([0, 2, 1])))
        self.assertIsNone(break_pair(OrderedPair(flat_order(4), 3, ordered_pair(flat_order(3), 2).tables)))
        for goals in ([1], [2, 1]):
            self.assertIsNone(break_pair(OrderedPair(flat_order(4), 2, ordered_pair(flat_order(3), 2).tables, goals)))

    def test_a_first_standing_that_is_wrong(self):
        source, sink = ordered_pair(flat_order(3), 2).tables
        wrong = NodeTable(sink.sends, sink.moves, None, [1] + list(sink.shows[1:]))
        self.assertEqual(break_pair(OrderedPair(flat_order(4), 2, [source, wrong])), Above([]))

    def test_great_tables(self):
        # With more than 30 seats it may give up, but not otherwise.
        for seed in range(20):
            dice = random.Random(seed)
            order = flat_order(4)
            pair = OrderedPair(order, 2, running_tables(order, dice, 40))
            try:
                self.check(pair)
            except TooMany as error:
                self.assertEqual(error.most, 30000)


if __name__ == "__main__":
    unittest.main()
