"""[13.6], [13.7]."""

import itertools
import random
import unittest

from spentframes.errors import BadCount, BadGoals, BadGoalSets, NotSilent
from spentframes.goals import fewest_goal_frames, goal_rows_fault
from spentframes.makers import chain_order, flat_order
from spentframes.nets import Net
from spentframes.outcomes import Above, Back, Stuck, breaks
from spentframes.runs import end_of
from spentframes.sets import (
    break_sets, deal_sets, fewest_set_frames, goal_sets_fault, is_silent, sets_system)
from spentframes.systems import System
from spentframes.tables import NodeTable
from spentframes.verdicts import judge
from tests.helpers import form_orders, raised, random_table, relay_system
from tests.test_goals import BAD_COUNTS, BAD_GOALS, orders_and_goals, range_list


def are_right(order, names, sets):
    """Tell by the words of [13.6] whether sets of things are right."""
    couples = itertools.permutations(zip(names, sets), 2)
    return all(sets) and all(order.at_most(a, b) for (a, one), (b, other) in couples if set(one) <= set(other))


def all_sets(m):
    return [some for k in range(1, m + 1) for some in itertools.combinations(range(m), k)]


def some_right(order, names, m, chosen=()):
    """Tell whether there are right sets, by a search through all of them, goal by goal."""
    if len(chosen) == len(names):
        return True
    for one in all_sets(m):
        if are_right(order, names, chosen + (one,)) and some_right(order, names, m, chosen + (one,)):
            return True
    return False


class Sets(unittest.TestCase):
    def test_against_a_search(self):
        for order, goals in orders_and_goals():
            names = tuple(sorted(goals))
            few = fewest_set_frames(order, goals)
            self.assertTrue(fewest_goal_frames(order, goals) <= few <= 5)
            for m in range(7):
                sets = deal_sets(order, goals, m)
                self.assertEqual(sets is None, m < few)
                if sets is not None:
                    self.assertTrue(are_right(order, names, sets))
                    self.assertTrue(all(list(one) == sorted(set(one)) and set(one) <= set(range(m)) for one in sets))
                    self.assertIsNone(goal_sets_fault(order, goals, m, sets))
                    self.assertIsNone(goal_rows_fault(order, goals, m, sets))
                elif m < 4:
                    self.assertFalse(some_right(order, names, m))

    def test_fewest_by_hand(self):
        self.assertEqual([fewest_set_frames(flat_order(n), range_list(n)) for n in range(2, 10)], [1, 2, 3, 4, 4, 4, 5, 5])
        self.assertEqual([fewest_set_frames(chain_order(n), range_list(n)) for n in range(2, 10)], [1, 2, 2, 3, 3, 3, 3, 4])

    def test_faults(self):
        order, goals = chain_order(4), [3, 1, 2]
        right = [[1], [0, 1], (0, 1, 2)]
        self.assertIsNone(goal_sets_fault(order, goals, 3, right))
        for sets in (None, "abc", 5, {}, right[:2], right + [[2]]):
            self.assertEqual(goal_sets_fault(order, goals, 3, sets), ("many", -1))
        for one in (None, "0", (), [], [3], [0, 0], [1, 0], [True], [-1], 5, [0, None], {0}, [0.0]):
            for at in range(3):
                self.assertEqual(goal_sets_fault(order, goals, 3, right[:at] + [one] + right[at + 1:]), ("set", at), one)
        for sets, at in (([[0, 1], [1], [2]], 1), ([[0], [0], [2]], 1), ([[0], [1, 2], [2]], 2), ([[0], [1], [1]], 2)):
            self.assertEqual(goal_sets_fault(order, goals, 3, sets), ("within", at))
        self.assertEqual(goal_sets_fault(order, goals, 3, [[0, 1], [1], None]), ("within", 1))
        flat = flat_order(4)
        self.assertEqual(goal_sets_fault(flat, goals, 3, [[0], [1], [0, 1]]), ("within", 2))
        self.assertEqual(goal_sets_fault(flat, goals, 3, [[0, 1], [1, 2], [2]]), ("within", 2))

    def test_faults_against_the_words(self):
        for seed, (order, goals) in enumerate(orders_and_goals()):
            dice, names = random.Random(seed), sorted(goals)
            for _ in range(30):
                m = dice.randint(1, 5)
                sets = [dice.choice(all_sets(m)) for _ in names]
                self.assertEqual(goal_sets_fault(order, goals, m, sets) is None, are_right(order, names, sets))

    def test_bad_goals_and_counts(self):
        order = flat_order(9)
        calls = [(deal_sets, ()), (goal_sets_fault, (None,)), (sets_system, (None,))]
        for goals, at in BAD_GOALS:
            self.assertEqual(raised(self, BadGoals, fewest_set_frames, order, goals), {"at": at})
            for call, more in calls:
                self.assertEqual(raised(self, BadGoals, call, order, goals, 9, *more), {"at": at})
        for m in BAD_COUNTS:
            for call, more in calls:
                self.assertEqual(raised(self, BadCount, call, order, [1], m, *more), {"most": 6})


class Systems(unittest.TestCase):
    def systems(self):
        for seed, (order, goals) in enumerate(orders_and_goals()):
            m = fewest_set_frames(order, goals) + seed % 2
            yield order, goals, m, deal_sets(order, goals, m)

    def test_parts(self):
        for order, goals, m, sets in self.systems():
            system = sets_system(order, goals, m, [list(one) for one in sets])
            self.assertTrue(system.net == Net(2, 0, 1, [(0, 1, m, "loose")]) and system.order == order)
            self.assertEqual(system.goals, tuple(sorted(goals)))
            source, sink = system.tables
            self.assertEqual((source.sends[0], set(source.moves)), ((), {()}))
            for goal, one in zip(sorted(goals), sets):
                seat = source.next_on_rise(0, goal)
                self.assertEqual(source.sends[seat], tuple((0, frame) for frame in one))
                self.assertEqual(source.rises[seat], ())
            self.assertEqual(set(sink.sends), {()})
            self.assertTrue(is_silent(system))

    def test_what_the_sink_shows(self):
        for seed, (order, goals, m, sets) in enumerate(self.systems()):
            system, dice = sets_system(order, goals, m, sets), random.Random(seed)
            for goal, one in zip(sorted(goals), sets):
                standing, come, shown = end_of(system, [("rise", goal)]), set(), 0
                for frame in dice.choices(one, k=4) + dice.sample(one, len(one)):
                    standing = system.after(standing, ("deliver", 0, 0, frame))
                    come.add(frame)
                    shown = dict((tuple(some), name) for name, some in zip(sorted(goals), sets)).get(tuple(sorted(come)), shown)
                    self.assertEqual(system.shown(standing), shown)
                self.assertEqual(shown, goal)

    def test_a_set_that_is_no_goals_own_leaves_what_is_shown(self):
        system = sets_system(chain_order(3), [1, 2], 4, [[1], [0, 1, 2, 3]])
        standing, shown = end_of(system, [("rise", 2)]), []
        for frame in (3, 1, 0, 2):
            standing = system.after(standing, ("deliver", 0, 0, frame))
            shown.append(system.shown(standing))
        self.assertEqual(shown, [0, 0, 0, 2])
        standing, shown = end_of(system, [("rise", 2)]), []
        for frame in (1, 0, 0, 3, 2):
            standing = system.after(standing, ("deliver", 0, 0, frame))
            shown.append(system.shown(standing))
        self.assertEqual(shown, [1, 1, 1, 1, 2])

    def test_right(self):
        for order, goals, m, sets in self.systems():
            system = sets_system(order, goals, m, sets)
            if len(goals) < 6:
                self.assertIsNone(judge(system))
            told = break_sets(system)
            self.assertEqual(told, tuple((goal, tuple((0, 0, frame) for frame in one)) for goal, one in zip(sorted(goals), sets)))

    def test_bad_sets(self):
        order = chain_order(4)
        for sets, word, at in ((None, "many", -1), ([[0]], "many", -1), ([[0], [1, 0], [1]], "set", 1), ([[0], [1], [1]], "within", 2)):
            self.assertEqual(raised(self, BadGoalSets, sets_system, order, [3, 2, 1], 3, sets), {"word": word, "at": at})


def silent_system(seed):
    """Return a silent system of any tables over any net of two nodes, and its goals."""
    dice = random.Random(seed)
    links = [tuple(dice.sample(range(2), 2)) + (dice.randint(1, 3), "loose") for _ in range(dice.randint(0, 3))]
    net = Net(2, *dice.sample(range(2), 2), links)
    order = dice.choice([order for order in form_orders() if 1 < order.n < 8])
    tables = []
    for node in range(2):
        sends, moves, rises, shows = random_table(net, node, order, dice, dice.randint(1, 8))
        tables.append(NodeTable([[] for _ in sends] if node == net.sink else sends, moves, rises, shows))
    triples = [(link, way, frame) for link in range(len(net)) for way in (0, 1) for frame in range(net.links[link][2])]
    goals = dice.sample(range(1, order.n), dice.randint(1, order.n - 1))
    return System(net, tables, order, goals, dice.sample(triples, min(len(triples), dice.choice([0, 0, 2]))))


class Breaking(unittest.TestCase):
    def test_any_tables(self):
        kinds = set()
        for seed in range(1200):
            system = silent_system(seed)
            self.assertTrue(is_silent(system))
            found = break_sets(system)
            kinds.add(type(found))
            if isinstance(found, tuple):
                self.check_told(system, found)
            else:
                self.assertTrue(breaks(system, found))
        self.assertEqual(kinds, {tuple, Above, Back, Stuck})

    def check_told(self, system, told):
        first = system.first()
        self.assertEqual([goal for goal, _ in told], list(system.goals))
        for goal, one in told:
            sending = system.sending(system.after(first, ("rise", goal)))
            self.assertEqual(one, tuple(triple for triple in sending if triple[2] not in first[1][triple[0]][triple[1]]))
        self.assertTrue(are_right(system.order, system.goals, [one for _, one in told]))

    def test_wrong_sets_are_always_broken(self):
        for seed, (order, goals) in enumerate(orders_and_goals()):
            dice, names = random.Random(seed), sorted(goals)
            m = fewest_set_frames(order, goals) - 1
            if m < 1:
                continue
            sets = [dice.choice(all_sets(m)) for _ in names]
            right = sets_system(flat_order(7), range_list(7), 4, deal_sets(flat_order(7), range_list(7), 4))
            source = NodeTable([[]] + [[(0, frame) for frame in one] for one in sets], [[]] * (len(sets) + 1),
                               [[(goal, at + 1) for at, goal in enumerate(names)]] + [[]] * len(sets))
            shows = [min(state, order.n - 1) for state in right.tables[1].shows]
            sink = NodeTable(right.tables[1].sends, right.tables[1].moves, None, shows)
            system = System(Net(2, 0, 1, [(0, 1, 4, "loose")]), [source, sink], order, names)
            self.assertTrue(breaks(system, break_sets(system)))

    def test_not_silent(self):
        order = flat_order(3)
        silent = sets_system(order, [1, 2], 2, [[0], [1]])
        self.assertTrue(is_silent(silent))
        without = System(silent.net, silent.tables, order)
        self.assertTrue(is_silent(without))
        self.assertEqual(raised(self, NotSilent, break_sets, without), {})
        sends = [[] for _ in silent.tables[1].sends]
        sends[-1] = [(0, 1)]
        speaking = NodeTable(sends, silent.tables[1].moves, None, silent.tables[1].shows)
        loud = System(silent.net, [silent.tables[0], speaking], order, [1, 2])
        self.assertFalse(is_silent(loud))
        self.assertEqual(raised(self, NotSilent, break_sets, loud), {})
        three = relay_system()
        self.assertFalse(is_silent(three))
        nothing = NodeTable([[]], [[]])
        third = System(Net(3, 0, 1, ()), [NodeTable([[]], [[]], [[]]), NodeTable([[]], [[]], None, [0]), nothing], order, [1])
        self.assertFalse(is_silent(third))
        self.assertEqual(raised(self, NotSilent, break_sets, third), {})


if __name__ == "__main__":
    unittest.main()
