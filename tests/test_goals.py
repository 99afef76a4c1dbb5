"""[13.1] to [13.5]."""

import functools
import itertools
import random
import unittest

from spentframes.coursing import course_row, route_between
from spentframes.errors import BadCount, BadGoalRows, BadGoals
from spentframes.foe import break_by
from spentframes.goals import (
    check_goals, deal_goals, fewest_goal_frames, goal_rows_fault, goal_rows_of_code, is_told, refusal_fault, refusal_of,
    rows_system)
from spentframes.makers import chain_order, flat_order
from spentframes.needs import need_of
from spentframes.nets import Net
from spentframes.orders import Order
from spentframes.outcomes import Told
from spentframes.rows import all_rows
from spentframes.systems import System
from spentframes.tables import NodeTable
from spentframes.verdicts import judge
from tests.helpers import form_orders, raised, random_pairs, right_codes

BAD_GOALS = [(None, -1), ("1", -1), ({}, -1), (5, -1), ([], -1), ((), -1), (range(1, 3), -1), (list(range(1, 10)), -1),
             ([0], 0), ([1, 0], 1), ([1, 9], 1), ([True], 0), ([1, None], 1), ([1, 2, 1], 2), (["1"], 0), ([2, 1.0], 1), ([-1], 0),
             ([[1]], 0), ([3, 3, 0], 1)]
BAD_COUNTS = (-1, 7, True, None, "1", 1.0, (1,))


def orders_and_goals():
    """Return orders with goals in any order, from one goal to eight."""
    made = [(flat_order(9), (8, 1, 7, 2, 6, 3, 5, 4)), (chain_order(9), (8, 1, 7, 2, 6, 3, 5, 4)), (flat_order(2), (1,))]
    for seed in range(60):
        dice = random.Random(seed)
        n = dice.randint(2, 9)
        order = Order(n, random_pairs(n, seed))
        made.append((order, dice.sample(range(1, n), dice.randint(1, n - 1))))
    return made


def begins(one, other):
    return list(one) == list(other)[:len(one)]


def are_right(order, names, m, rows):
    """Tell by the words of [13.2] whether rows are right."""
    frames = set(range(m))
    for row in rows:
        if not row or len(set(row)) != len(row) or not set(row) <= frames:
            return False
    return all(order.at_most(a, b) for (a, row), (b, other) in itertools.permutations(zip(names, rows), 2) if begins(row, other))


@functools.lru_cache(maxsize=None)
def rows_over(m):
    return [row for row in all_rows(m) if row]


def some_right(order, names, m, chosen=()):
    """Tell whether there are right rows, by a search through all of them, goal by goal."""
    if len(chosen) == len(names):
        return True
    for row in rows_over(m):
        if are_right(order, names[:len(chosen) + 1], m, chosen + (row,)) and some_right(order, names, m, chosen + (row,)):
            return True
    return False


class Goals(unittest.TestCase):
    def test_ascending(self):
        self.assertEqual(check_goals(chain_order(9), [8, 1, 7, 2, 6, 3, 5, 4]), (1, 2, 3, 4, 5, 6, 7, 8))
        self.assertEqual(check_goals(flat_order(3), (2,)), (2,))

    def test_bad_goals_and_counts(self):
        order = flat_order(9)
        calls = [(deal_goals, ()), (refusal_of, ()), (goal_rows_fault, (None,)), (refusal_fault, (None,)), (rows_system, (None,)),
                 (is_told, ())]
        for goals, at in BAD_GOALS:
            for call in (check_goals, fewest_goal_frames):
                self.assertEqual(raised(self, BadGoals, call, order, goals), {"at": at}, goals)
            for call, more in calls:
                self.assertEqual(raised(self, BadGoals, call, order, goals, 9, *more), {"at": at}, goals)
        for m in BAD_COUNTS:
            for call, more in calls:
                self.assertEqual(raised(self, BadCount, call, order, [1], m, *more), {"most": 6}, m)

    def test_what_is_passed_stays_as_it_was(self):
        goals, rows = [3, 1, 2], [[0], [1, 0], [2]]
        order = flat_order(4)
        for call in (deal_goals, refusal_of, is_told):
            call(order, goals, 3)
        rows_system(order, goals, 3, rows)
        self.assertEqual((goals, rows), ([3, 1, 2], [[0], [1, 0], [2]]))


class Rows(unittest.TestCase):
    def test_against_a_search(self):
        for order, goals in orders_and_goals():
            names = tuple(sorted(goals))
            few = fewest_goal_frames(order, goals)
            self.assertTrue(1 <= few <= 4)
            for m in range(7):
                rows = deal_goals(order, goals, m)
                self.assertEqual(rows is None, m < few)
                if rows is not None:
                    self.assertTrue(are_right(order, names, m, rows))
                    self.assertIsNone(goal_rows_fault(order, goals, m, rows))
                    self.assertEqual({type(row) for row in rows} | {type(rows)}, {tuple})
                elif m < 4 and len(names) < 6:
                    self.assertFalse(some_right(order, names, m))

    def test_fewest_by_hand(self):
        self.assertEqual([fewest_goal_frames(flat_order(n), range_list(n)) for n in range(2, 10)], [1, 2, 3, 3, 3, 3, 4, 4])
        self.assertEqual([fewest_goal_frames(chain_order(n), range_list(n)) for n in range(2, 10)], [1, 2, 2, 2, 3, 3, 3, 3])

    def test_faults(self):
        order = Order(5, [(0, 1), (1, 2), (0, 3), (3, 4)])
        goals = [4, 2, 1]
        right = [[0], [0, 1], [1]]
        self.assertIsNone(goal_rows_fault(order, goals, 2, right))
        for rows in (None, "abc", 5, {}, right[:2], right + [[1, 0]], ()):
            self.assertEqual(goal_rows_fault(order, goals, 2, rows), ("many", -1))
        for row in (None, "0", (), [], [2], [0, 0], [True], [-1], [None], 5, [0, 1, 2]):
            for at in range(3):
                rows = right[:at] + [row] + right[at + 1:]
                self.assertEqual(goal_rows_fault(order, goals, 2, rows), ("row", at), row)
        cases = [([[0, 1], [0], [1]], 1), ([[0], [0], [1]], 1), ([[0], [0, 1], [0]], 2), ([[0], [1], [1, 0]], 2),
                 ([[0], [1, 0], [1]], 2), ([[0], [1], [0, 1]], 2)]
        for rows, at in cases:
            self.assertEqual(goal_rows_fault(order, goals, 2, rows), ("begins", at), rows)
        self.assertEqual(goal_rows_fault(order, goals, 2, [[0, 1], [0], None]), ("begins", 1))
        self.assertEqual(goal_rows_fault(order, goals, 0, [(), (), ()]), ("row", 0))

    def test_faults_against_the_words(self):
        for seed, (order, goals) in enumerate(orders_and_goals()):
            dice, names = random.Random(seed), sorted(goals)
            for _ in range(30):
                m = dice.randint(1, 4)
                rows = [dice.choice(rows_over(m)) for _ in names]
                self.assertEqual(goal_rows_fault(order, goals, m, rows) is None, are_right(order, names, m, rows))


def range_list(n):
    return list(range(1, n))


class Lots(unittest.TestCase):
    def told(self, order, lot, k):
        """Tell by the words of [13.3] whether a lot can be told."""
        least = [goal for goal in lot if all(order.at_most(goal, other) for other in lot)]
        return self.dealt(order, [goal for goal in lot if goal not in least], [], k, k - 1)

    def dealt(self, order, rest, lots, most, left):
        """Tell whether goals can be dealt into at most so many lots, each told with so many frames left."""
        if not rest:
            return all(self.told(order, lot, left) for lot in lots)
        more = [lots[:at] + [lots[at] + rest[:1]] + lots[at + 1:] for at in range(len(lots))]
        if len(lots) < most:
            more.append(lots + [rest[:1]])
        return any(self.dealt(order, rest[1:], split, most, left) for split in more)

    def test_against_the_words(self):
        for order, goals in orders_and_goals():
            if len(goals) > 5:
                continue
            for many in range(1, len(goals) + 1):
                for k in range(4):
                    self.assertIs(is_told(order, goals[:many], k), self.told(order, sorted(goals[:many]), k))
            for m in range(1, 5):
                self.assertEqual(deal_goals(order, goals, m) is not None, self.dealt(order, sorted(goals), [], m, m - 1))

    def test_by_hand(self):
        self.assertEqual([is_told(flat_order(9), [5], k) for k in range(7)], [True] * 7)
        self.assertEqual([is_told(flat_order(9), [5, 6], k) for k in range(4)], [False, False, True, True])
        self.assertEqual([is_told(chain_order(9), [5, 6], k) for k in range(4)], [False, True, True, True])


class Refusals(unittest.TestCase):
    def test_exactly_where_there_are_no_rows(self):
        for order, goals in orders_and_goals():
            for m in range(7):
                paper = refusal_of(order, goals, m)
                self.assertEqual(paper is None, deal_goals(order, goals, m) is not None)
                if paper is not None:
                    self.assertEqual(len(paper), m)
                    self.assertIsNone(refusal_fault(order, goals, m, paper))
                    self.assertIsNone(refusal_fault(order, goals, m, [[list(lot) for lot in level] for level in paper]))

    def test_no_paper_where_there_are_rows(self):
        for seed, (order, goals) in enumerate(orders_and_goals()):
            dice, names = random.Random(seed), sorted(goals)
            lots = [lot for k in range(1, len(names) + 1) for lot in itertools.combinations(names, k)]
            m = fewest_goal_frames(order, goals)
            for _ in range(10):
                paper = [dice.sample(lots, dice.randint(0, min(len(lots), 5))) for _ in range(m)]
                self.assertIsNotNone(refusal_fault(order, goals, m, paper))
            untold = [[lot for lot in lots if not is_told(order, lot, k)] for k in range(m)]
            self.assertEqual(refusal_fault(order, goals, m, untold), (m, -1, "goals"))
            if m > 1:
                self.assertIsNone(refusal_fault(order, goals, m - 1, untold[:-1]))

    def test_faults(self):
        order, goals = flat_order(5), (4, 3, 2, 1)
        paper = refusal_of(order, goals, 2)
        for thing in (None, "ab", 5, {}, paper[:1], paper + ((),), ()):
            self.assertEqual(refusal_fault(order, goals, 2, thing), (-1, -1, "levels"))
        for level in (None, "ab", 5, {}, [(1, 2)] * 257):
            self.assertEqual(refusal_fault(order, goals, 2, (level, None)), (0, -1, "level"))
            self.assertEqual(refusal_fault(order, goals, 2, (paper[0], level)), (1, -1, "level"))
        self.assertIsNone(refusal_fault(order, goals, 2, ([(1, 2)] * 250 + list(paper[0]), paper[1])))
        for lot in (None, 5, "12", (), (2, 1), (1, 1), (0, 1), (1, 5), (True, 2), (1, None), [1.0, 2]):
            self.assertEqual(refusal_fault(order, goals, 2, ([(1, 2), lot, None], None)), (0, 1, "lot"))
        self.assertEqual(refusal_fault(order, goals, 2, ([(1, 2), (3,), None], None)), (0, 1, "told"))
        self.assertEqual(refusal_fault(order, goals, 2, ((), [(1, 2)])), (1, 0, "told"))
        self.assertEqual(refusal_fault(order, goals, 2, ((), ())), (2, -1, "goals"))
        # A lot of level 1 stands only with what level 0 says: here nothing bars a lot of two from being one lot.
        chain = chain_order(5)
        self.assertEqual(refusal_fault(chain, goals, 2, ((), [(1, 2, 3)])), (1, 0, "told"))
        self.assertEqual(refusal_fault(chain, goals, 2, ([(2, 3)], [(1, 2, 3)])), (2, -1, "goals"))
        self.assertEqual(refusal_fault(order, [1], 0, ()), None)
        self.assertEqual(refusal_fault(order, [1], 1, [[]]), (1, -1, "goals"))
        self.assertEqual(refusal_fault(order, [1, 2], 1, [[[1, 2]]]), None)


class Systems(unittest.TestCase):
    def systems(self):
        for seed, (order, goals) in enumerate(orders_and_goals()):
            m = fewest_goal_frames(order, goals)
            for more in (0, seed % 2):
                yield order, goals, m + more, deal_goals(order, goals, m + more)

    def test_parts(self):
        for order, goals, m, rows in self.systems():
            system = rows_system(order, goals, m, [list(row) for row in rows])
            self.assertTrue(system.net == Net(2, 0, 1, [(0, 1, m, "loose")]) and system.order == order)
            self.assertEqual((system.goals, system.spent), (tuple(sorted(goals)), ()))
            source, sink = system.tables
            self.assertEqual(len(source), 1 + sum(len(row) + 1 for row in rows))
            self.assertEqual((source.sends[0], source.moves[0]), ((), ()))
            self.assertEqual([state for state, _ in source.rises[0]], sorted(goals))
            self.assertEqual(set(source.rises[1:]), {()})
            for goal, row in zip(sorted(goals), rows):
                seat = source.next_on_rise(0, goal)
                for frame in row:
                    self.assertEqual(source.sends[seat], ((0, frame),))
                    self.assertEqual([triple[:2] for triple in source.moves[seat]], [(0, frame)])
                    seat = source.next_seat(seat, 0, frame)
                self.assertEqual((source.sends[seat], source.moves[seat]), ((), ()))
            self.check_sink(sink, sorted(goals), rows)

    def check_sink(self, sink, names, rows):
        begun = {row[:k] for row in rows for k in range(len(row) + 1)}
        self.assertEqual(len(sink), len(begun))
        seats = {(): 0}
        for row in sorted(begun, key=len):
            seat = seats[row]
            self.assertEqual(sink.sends[seat], ((0, row[-1]),) if row else ())
            shown = [(len(other), goal) for goal, other in zip(names, rows) if begins(other, row)]
            self.assertEqual(sink.shows[seat], max(shown)[1] if shown else 0)
            self.assertEqual({frame for _, frame, _ in sink.moves[seat]}, {longer[-1] for longer in begun if longer and longer[:-1] == row})
            for _, frame, behind in sink.moves[seat]:
                seats[row + (frame,)] = behind
        self.assertEqual(len(set(seats.values())), len(begun))

    def test_right(self):
        for order, goals, m, rows in self.systems():
            system = rows_system(order, goals, m, rows)
            self.assertIsNone(judge(system))
            self.assertIsInstance(break_by(system, [0]), Told)

    def test_without_right_rows_every_system_is_broken(self):
        for seed, (order, goals) in enumerate(orders_and_goals()):
            m = fewest_goal_frames(order, goals) - 1
            if m < 1:
                continue
            rows = [dice_row(m, seed + goal) for goal in sorted(goals)]
            system = wrong_rows_system(order, goals, m, rows)
            self.assertNotIsInstance(break_by(system, [0]), Told)
            self.assertIsNotNone(judge(system))

    def test_bad_rows(self):
        order = flat_order(4)
        for rows, word, at in ((None, "many", -1), ([[0], [1]], "many", -1), ([[0], [1], []], "row", 2), ([[0], [0, 1], [2]], "begins", 1)):
            self.assertEqual(raised(self, BadGoalRows, rows_system, order, [1, 2, 3], 3, rows), {"word": word, "at": at})


def dice_row(m, seed):
    return random.Random(seed).choice(rows_over(m))


def wrong_rows_system(order, goals, m, rows):
    """Return a system made like `rows_system` from rows that need not be right."""
    sends, moves, rises, names = [[]], [[]], [], sorted(goals)
    for goal, row in zip(names, rows):
        rises.append((goal, len(sends)))
        for frame in row:
            moves.append([(0, frame, len(sends) + 1)])
            sends.append([(0, frame)])
        sends.append([])
        moves.append([])
    begun = sorted({row[:k] for row in rows for k in range(len(row) + 1)})
    nexts = [[(0, row[-1], begun.index(row)) for row in begun if row and row[:-1] == short] for short in begun]
    shows = [max([(len(row), goal) for goal, row in zip(names, rows) if begins(row, short)], default=(0, 0))[1] for short in begun]
    source = NodeTable(sends, moves, [rises] + [[]] * (len(sends) - 1))
    sink = NodeTable([[(0, row[-1])] if row else [] for row in begun], nexts, None, shows)
    return System(Net(2, 0, 1, [(0, 1, m, "loose")]), [source, sink], order, names)


class OfCodes(unittest.TestCase):
    def test_rows_of_codes(self):
        for seed, code in enumerate(right_codes()):
            if code.order.n == 1:
                continue
            goals = random.Random(seed).sample(range(1, code.order.n), random.Random(seed).randint(1, min(8, code.order.n - 1)))
            rows = goal_rows_of_code(code, goals)
            self.assertEqual(rows, tuple(course_row(code, route_between(code.order, 0, goal)) for goal in sorted(goals)))
            if code.m <= 6:
                self.assertIsNone(goal_rows_fault(code.order, goals, code.m, rows))
                self.assertLessEqual(fewest_goal_frames(code.order, goals), code.m)

    def test_bad_goals(self):
        code = next(code for code in right_codes() if code.order.n == 6)
        for goals, at in BAD_GOALS:
            if goals != [1, 9]:
                self.assertEqual(raised(self, BadGoals, goal_rows_of_code, code, goals)["at"], at if goals != [3, 3, 0] else 1)

    def test_never_more_than_the_need(self):
        for order in form_orders():
            if order.n > 1:
                self.assertLessEqual(fewest_goal_frames(order, list(range(1, min(order.n, 9)))), need_of(order))


if __name__ == "__main__":
    unittest.main()
