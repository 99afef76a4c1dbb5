"""[4.6] to [4.10]."""

import itertools
import math
import random
import unittest

from spentframes.dealing import deal_rows, dealing_fault
from spentframes.errors import BadNeeds, BadNeedTable, UnlikeSizes
from spentframes.makers import (
    chain_order, facts_order, flat_order, product_order, stacked_order, words_order)
from spentframes.needs import (
    changed_needs, least_count, need_fault, need_of, need_paper, need_table, paper_fault, spare_table)
from spentframes.orders import Order
from tests.helpers import form_orders, raised, random_pairs, wide_order

NO_SEQUENCES = (None, "01", 3, {0: 0}, {0})
NO_WHOLES = (-1, True, False, None, "1", 1.0, (1,))


def need_by_words(needs):
    """Return the need that [4.6] tells for the needs of the covers."""
    if not needs:
        return 0
    return next(k for k in itertools.count() if k > max(needs) and math.factorial(k) >= sum(map(math.factorial, needs)))


def needs_by_words(order):
    def need(state):
        return need_by_words([need(cover) for cover in order.covers(state)])
    return tuple(need(state) for state in range(order.n))


def big_orders():
    return [chain_order(24), flat_order(24), wide_order(), words_order(2, 3)[0], facts_order(4, [])[0],
            product_order(chain_order(4), flat_order(6)), stacked_order(flat_order(11), words_order(3, 2)[0])]


class Needs(unittest.TestCase):
    def test_the_least_count(self):
        self.assertEqual(least_count([]), 0)
        self.assertEqual([least_count([0] * many) for many in range(1, 9)], [1, 2, 3, 3, 3, 3, 4, 4])
        self.assertEqual(least_count([0] * 24), 4)
        self.assertEqual(least_count((1, 1, 0)), 3)
        self.assertEqual(least_count([2, 2, 1, 0]), 3)
        self.assertEqual(least_count([2, 2, 1, 1, 0]), 4)
        self.assertEqual(least_count([22]), 23)
        self.assertEqual(least_count([22] * 23), 23)
        self.assertEqual(least_count([22] * 24), 24)
        dice = random.Random(1)
        for _ in range(300):
            needs = [dice.randint(0, dice.choice((2, 4, 22))) for _ in range(dice.randint(1, 24))]
            self.assertEqual(least_count(needs), need_by_words(needs))

    def test_wrong_needs(self):
        for needs in NO_SEQUENCES + ([0] * 25, (99,) * 25):
            self.assertEqual(raised(self, BadNeeds, least_count, needs), {"at": -1})
        for need in (23,) + NO_WHOLES:
            self.assertEqual(raised(self, BadNeeds, least_count, [0, 22, need, None]), {"at": 2})
        self.assertEqual(raised(self, BadNeeds, least_count, (23,)), {"at": 0})

    def test_tables(self):
        for order in form_orders() + big_orders():
            table = need_table(order)
            self.assertIs(type(table), tuple)
            self.assertEqual(table, needs_by_words(order))
            self.assertEqual(need_of(order), table[0])
            self.assertTrue(all(table[state] <= len(order.above(state)) for state in range(order.n)))

    def test_tables_by_hand(self):
        self.assertEqual(need_table(Order(1, [])), (0,))
        self.assertEqual(need_table(chain_order(24)), tuple(range(23, -1, -1)))
        self.assertEqual(need_table(flat_order(24)), (4,) + (0,) * 23)
        self.assertEqual(need_table(Order(5, [(0, 1), (0, 2), (1, 3), (1, 4), (2, 4)])), (3, 2, 1, 0, 0))
        self.assertEqual(need_table(words_order(2, 3)[0]), (4, 3, 3, 2, 2, 2, 2) + (0,) * 8)

    def test_rows_can_be_dealt_exactly_from_the_need_on(self):
        for order in form_orders():
            table = need_table(order)
            for state in range(order.n):
                needs = [table[cover] for cover in order.covers(state)]
                for k in range(max(needs, default=-1) + 1, 9):
                    self.assertIs(deal_rows(k, [k - need for need in needs]) is not None, k >= table[state])


class TableFaults(unittest.TestCase):
    def test_the_right_tables_have_none(self):
        for order in form_orders() + big_orders():
            self.assertIsNone(need_fault(order, need_table(order)))
            self.assertIsNone(need_fault(order, list(need_table(order))))

    def test_length(self):
        order = chain_order(3)
        for table in NO_SEQUENCES + ((), (2, 1), (2, 1, 0, 0), [99, 0]):
            self.assertEqual(need_fault(order, table), (-1, "length"))

    def test_number(self):
        for thing in (24,) + NO_WHOLES:
            self.assertEqual(need_fault(chain_order(4), [9, thing, thing, 0]), (1, "number"), thing)
        self.assertEqual(need_fault(chain_order(3), (2, 23, 0)), (0, "low"))

    def test_low_and_high_at_the_least_state(self):
        self.assertEqual(need_fault(chain_order(4), (3, 2, 1, 1)), (2, "low"))
        self.assertEqual(need_fault(chain_order(4), (3, 2, 1, 5)), (2, "low"))
        self.assertEqual(need_fault(chain_order(4), (4, 3, 2, 1)), (3, "high"))
        self.assertEqual(need_fault(chain_order(4), (2, 2, 2, 0)), (0, "low"))
        self.assertEqual(need_fault(chain_order(4), (4, 2, 2, 0)), (0, "high"))
        self.assertEqual(need_fault(flat_order(4), [2, 0, 0, 0]), (0, "low"))
        self.assertEqual(need_fault(flat_order(4), [4, 0, 0, 0]), (0, "high"))

    def test_entries_of_23_count_as_they_stand(self):
        self.assertEqual(need_fault(flat_order(24), [23] * 24), (0, "low"))
        self.assertEqual(need_fault(flat_order(3), [23, 23, 0]), (0, "low"))
        self.assertEqual(need_fault(flat_order(3), [23, 22, 22]), (1, "high"))
        self.assertEqual(need_fault(chain_order(2), [23, 23]), (0, "low"))
        self.assertEqual(need_fault(flat_order(24), [23] + [22] * 23), (1, "high"))

    def test_each_other_entry_is_told(self):
        for order in form_orders():
            table = list(need_table(order))
            for state in range(order.n):
                for entry in range(table[state] + 3):
                    bent = table[:state] + [entry] + table[state + 1:]
                    wanted = [need_by_words([bent[cover] for cover in order.covers(k)]) for k in range(order.n)]
                    faults = [(k, "low" if bent[k] < wanted[k] else "high") for k in range(order.n) if bent[k] != wanted[k]]
                    self.assertEqual(need_fault(order, bent), faults[0] if faults else None)


class Spare(unittest.TestCase):
    def test_by_hand(self):
        self.assertEqual(spare_table(Order(1, [])), (0,))
        self.assertEqual(spare_table(flat_order(4)), (3, 0, 0, 0))
        self.assertEqual(spare_table(flat_order(7)), (0,) * 7)
        self.assertEqual(spare_table(chain_order(4)), (4, 1, 0, 0))
        self.assertEqual(spare_table(flat_order(24)), (1,) + (0,) * 23)

    def test_a_further_cover_that_fits_leaves_the_need(self):
        for order in form_orders() + big_orders():
            table, spare = need_table(order), spare_table(order)
            self.assertIs(type(spare), tuple)
            for state in range(order.n):
                needs = [table[cover] for cover in order.covers(state)]
                if not needs:
                    self.assertEqual(spare[state], 0)
                    continue
                self.assertEqual(spare[state], math.factorial(table[state]) - sum(map(math.factorial, needs)))
                for need in range(table[state] + 2):
                    fits = need < table[state] and math.factorial(need) <= spare[state]
                    self.assertIs(need_by_words(needs + [need]) == table[state], fits)


class Papers(unittest.TestCase):
    def test_papers_by_hand(self):
        self.assertEqual(need_paper(Order(1, [])), ((0, (), ()),))
        self.assertEqual(need_paper(chain_order(3)), ((2, ((0,),), ("cover", 1)), (1, ((0,),), ("cover", 2)), (0, (), ())))
        self.assertEqual(need_paper(flat_order(4))[0], (3, ((0, 1, 2), (0, 2, 1), (1, 0, 2)), ("sum", 3)))
        order = Order(6, [(0, 1), (0, 2), (1, 3), (2, 4), (2, 5)])
        self.assertEqual(need_paper(order)[0], (3, ((1, 0), (0,)), ("cover", 2)))

    def test_papers_of_many_orders(self):
        for order in form_orders() + big_orders():
            table, paper = need_table(order), need_paper(order)
            self.assertEqual(tuple(entry[0] for entry in paper), table)
            for state, (need, rows, short) in enumerate(paper):
                covers = order.covers(state)
                lengths = [need - table[cover] for cover in covers]
                self.assertEqual(rows, deal_rows(need, lengths))
                near = [cover for cover in covers if table[cover] == need - 1]
                total = sum(math.factorial(table[cover]) for cover in covers)
                wanted = () if not covers else ("cover", near[0]) if near else ("sum", total)
                self.assertEqual(short, wanted)
                if short and short[0] == "sum":
                    self.assertGreater(total, math.factorial(need - 1))
            self.assertIsNone(paper_fault(order, paper))
            self.assertIsNone(paper_fault(order, [[need, [list(row) for row in rows], list(short)]
                                                  for need, rows, short in paper]))

    def test_other_right_papers(self):
        order = flat_order(4)
        ends = [(0, [], [])] * 3
        self.assertIsNone(paper_fault(order, [(3, [(2, 1, 0), (1, 0, 2), (0, 1, 2)], ["sum", 3])] + ends))
        fork = Order(6, [(0, 1), (0, 2), (1, 3), (1, 4), (2, 4), (2, 5)])
        first = (3, ((0,), (1,)), ("cover", 2))
        second = (2, ((0, 1), (1, 0)), ("sum", 2))
        for short in (("cover", 1), ("cover", 2), ("sum", 4)):
            self.assertIsNone(paper_fault(fork, [first[:2] + (short,), second, second] + [(0, (), ())] * 3))


class PaperFaults(unittest.TestCase):
    """The order of these tests: 0 below 1 and 2, 1 below 3, 4 and 5; the needs are (4, 3, 0, 0, 0, 0)."""

    def setUp(self):
        self.order = Order(6, [(0, 1), (0, 2), (1, 3), (1, 4), (1, 5)])
        self.paper = [list(entry) for entry in need_paper(self.order)]
        self.assertEqual([entry[0] for entry in self.paper], [4, 3, 0, 0, 0, 0])

    def bent(self, state, at, thing):
        """Return the fault of the paper with another item in the entry of a state."""
        paper = [list(entry) for entry in self.paper]
        paper[state][at] = thing
        return paper_fault(self.order, paper)

    def test_length(self):
        for paper in NO_SEQUENCES + ([], self.paper[:5], self.paper + [self.paper[5]], [None]):
            self.assertEqual(paper_fault(self.order, paper), (-1, "length"))

    def test_entry(self):
        for entry in (None, 3, "abc", (), (3, ()), (3, (), (), ()), {0: 3, 1: (), 2: ()}):
            paper = self.paper[:1] + [entry] + self.paper[2:5] + [None]
            self.assertEqual(paper_fault(self.order, paper), (1, "entry"))
        for thing in (24,) + NO_WHOLES:
            self.assertEqual(self.bent(2, 0, thing), (2, "entry"))
        for thing in (None, "ab", 3, {}):
            self.assertEqual(self.bent(1, 1, thing), (1, "entry"))
            self.assertEqual(self.bent(1, 2, thing), (1, "entry"))
        for thing in (("cover",), ("cover", 1, 2), [0], {"sum": 3, 1: 1}):
            self.assertEqual(self.bent(1, 2, thing), (1, "entry"))

    def test_entries_are_looked_at_before_all_else(self):
        self.paper[0][0] = 0
        self.assertEqual(self.bent(5, 2, ("sum",)), (5, "entry"))
        self.assertEqual(self.bent(5, 2, ("sum", 3)), (0, "need"))

    def test_need(self):
        self.assertEqual(self.bent(1, 0, 0), (0, "rows"))
        self.assertEqual(self.bent(0, 0, 0), (0, "need"))
        self.assertEqual(self.bent(2, 0, 1), (0, "rows"))
        self.paper[0][1] = ((0,), (1, 0, 2))
        self.assertEqual(self.bent(2, 0, 1), (2, "need"))
        order = chain_order(2)
        self.assertEqual(paper_fault(order, [(23, [tuple(range(23))], ("cover", 1)), (0, (), ())]), (0, "short"))

    def test_rows(self):
        right = self.paper[1][1]
        for rows in ((), right[:2], right + ((2, 0, 1),), (right[0], right[1], right[1]), (right[0], right[1], (2,)),
                     (right[0], right[1], (3, 0, 1)), (right[0], right[1], None), [[], [], []]):
            self.assertEqual(self.bent(1, 1, rows), (1, "rows"))
        self.assertEqual(self.bent(3, 1, ((),)), (3, "rows"))
        self.assertEqual(self.bent(3, 1, []), None)

    def test_lengths_must_be_1_or_more(self):
        order = chain_order(3)
        self.assertEqual(paper_fault(order, [(1, [()], ("sum", 1)), (1, [(0,)], ("cover", 2)), (0, (), ())]), (0, "rows"))
        self.assertEqual(paper_fault(order, [(1, [()], ()), (2, [(0, 1)], ("cover", 2)), (0, (), ())]), (0, "rows"))
        self.assertEqual(paper_fault(order, [(3, [(0,)], ("cover", 1)), (2, [(0, 1)], ("cover", 2)), (0, (), ())]),
                         (1, "short"))

    def test_short(self):
        for short in ((), ("cover", 2), ("cover", 3), ("cover", True), ("cover", None), ("cover", 6), ("cover", -5),
                      ("sum", 1), ("sum", 7), ("sum", 6), ("covers", 1), (None, 1), ("cover", (1,)), (1, "cover"),
                      ("sum", None), ["sum", "7"], ("cover", 0), ("sums", 7), (None, 7), ("", 7)):
            fault = self.bent(0, 2, short)
            self.assertEqual(fault, None if short == ("sum", 7) else (0, "short"), short)
        for short in (("cover", 3), ("sum", 2), ("sum", 4), ("sum", True), ()):
            self.assertEqual(self.bent(1, 2, short), (1, "short"))
        for short in (("cover", 0), ("sum", 0), ("cover", 3)):
            self.assertEqual(self.bent(3, 2, short), (3, "short"))

    def test_a_sum_must_be_greater_than_the_room(self):
        order = flat_order(3)
        ends = [(0, (), ())] * 2
        self.assertIsNone(paper_fault(order, [(2, [(0, 1), (1, 0)], ("sum", 2))] + ends))
        self.assertEqual(paper_fault(order, [(3, [(0, 1, 2), (1, 0, 2)], ("sum", 2))] + ends), (0, "short"))
        self.assertEqual(paper_fault(chain_order(2), [(1, [(0,)], ("sum", 1)), (0, (), ())]), (0, "short"))

    def test_state_by_state(self):
        self.paper[1][2] = ()
        self.assertEqual(self.bent(3, 0, 1), (1, "rows"))
        self.assertEqual(self.bent(2, 1, [()]), (1, "short"))
        self.paper[0][1] = ()
        self.assertEqual(self.bent(3, 0, 1), (0, "rows"))
        self.paper[0][2] = ()
        self.assertEqual(self.bent(3, 1, [()]), (0, "rows"))

    def test_a_paper_without_a_fault_tells_the_needs(self):
        for order in form_orders()[:12]:
            right = need_table(order)
            for seed in range(20):
                dice = random.Random(seed)
                table = [max(0, need + dice.choice((-1, 0, 0, 0, 1))) for need in right]
                paper = []
                for state in range(order.n):
                    covers = order.covers(state)
                    lengths = [table[state] - table[cover] for cover in covers]
                    rows = deal_rows(table[state], lengths) if all(length >= 0 for length in lengths) else ()
                    near = [cover for cover in covers if table[cover] == table[state] - 1]
                    total = sum(math.factorial(table[cover]) for cover in covers)
                    short = () if not covers else ("cover", near[-1]) if near else ("sum", total)
                    paper.append((table[state], rows or (), short))
                if paper_fault(order, paper) is None:
                    self.assertEqual(tuple(table), right)
                else:
                    self.assertNotEqual(tuple(table), right)


class ChangedNeeds(unittest.TestCase):
    def test_against_the_table_made_from_nothing(self):
        for n, seed in itertools.product(range(1, 10), range(25)):
            old, new = Order(n, random_pairs(n, seed)), Order(n, random_pairs(n, seed + 100))
            if seed % 2:
                new = Order(n, list(old.edges) + [(1, n - 1)] if n > 2 and not old.at_most(n - 1, 1) else list(old.edges))
            before, after = need_table(old), need_table(new)
            worked = [state for state in range(n) if old.covers(state) != new.covers(state)
                      or any(before[cover] != after[cover] for cover in new.covers(state))]
            for table in (before, list(before)):
                self.assertEqual(changed_needs(old, table, new), (after, tuple(worked)))

    def test_by_hand(self):
        self.assertEqual(changed_needs(chain_order(4), (3, 2, 1, 0), chain_order(4)), ((3, 2, 1, 0), ()))
        self.assertEqual(changed_needs(chain_order(4), [3, 2, 1, 0], flat_order(4)), ((3, 0, 0, 0), (0, 1, 2)))
        new = Order(5, [(0, 1), (1, 2), (1, 3), (0, 4)])
        old = Order(5, [(0, 1), (1, 2), (0, 4), (0, 3)])
        self.assertEqual(changed_needs(old, need_table(old), new), ((3, 2, 0, 0, 0), (0, 1)))
        old = Order(6, [(0, 1), (1, 2), (2, 3), (0, 4), (0, 5)])
        new = Order(6, [(0, 1), (1, 2), (0, 3), (2, 4), (0, 5)])
        self.assertEqual(changed_needs(old, need_table(old), new), ((3, 2, 1, 0, 0, 0), (0, 2)))

    def test_unlike_sizes_come_first(self):
        self.assertEqual(raised(self, UnlikeSizes, changed_needs, chain_order(3), None, chain_order(4)), {})
        self.assertEqual(raised(self, UnlikeSizes, changed_needs, chain_order(4), (2, 1, 0), chain_order(3)), {})

    def test_wrong_tables(self):
        old, new = chain_order(3), flat_order(3)
        for table, state, what in ((None, -1, "length"), ((2, 1), -1, "length"), ((2, True, 0), 1, "number"),
                                   ((2, 1, 24), 2, "number"), ((2, 0, 0), 0, "high"), ((1, 1, 0), 0, "low"),
                                   ((3, 2, 0), 1, "high")):
            self.assertEqual(raised(self, BadNeedTable, changed_needs, old, table, new), {"state": state, "what": what})
        self.assertEqual(raised(self, BadNeedTable, changed_needs, old, need_table(new), new), {"state": 0, "what": "high"})

    def test_the_table_is_not_changed(self):
        table = [3, 2, 1, 0]
        changed_needs(chain_order(4), table, flat_order(4))
        self.assertEqual(table, [3, 2, 1, 0])
