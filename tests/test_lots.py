"""[9.1] to [9.4]."""

import itertools
import random
import unittest

from spentframes.errors import BadGraph, NoTour
from spentframes.lots import (
    fair_lots, fair_tour, is_fair_lot, no_lot_fault, no_lot_paper, tour_fault)
from tests.helpers import raised

NO_WHOLES = (True, False, None, "1", 1.0, (1,))
NO_SEQUENCES = (None, "ab", {}, {0: 1}, {1}, 5)
HUGE = 10 ** 40


def random_graph(seed, most=5):
    """Return (wants, arcs) of a few vertices, with keys below zero and very large ones too."""
    dice = random.Random(seed)
    n = dice.randint(0, most)
    keys = [0, 1, -3, HUGE][:dice.randint(1, 4)]
    few = dice.choice([0.2, 0.5, 1, 2])
    wants = [dice.choices(keys, k=dice.choice([0, 0, 1, 1, 2])) for _ in range(n)]
    arcs = [(dice.randrange(n), dice.randrange(n), dice.choices(keys, k=dice.choice([0, 1, 1, 2])))
            for _ in range(int(few * n * 2))] if n else []
    return wants, arcs


def graphs():
    return [random_graph(seed) for seed in range(600)]


def is_lot(wants, arcs, lot):
    """Tell by the words of [9.2] whether a set of vertices is a fair lot."""
    within = [(one, other, keys) for one, other, keys in arcs if one in lot and other in lot]
    reached = {(one, one) for one in lot} | {(one, other) for one, other, _ in within}
    for mid, one, other in itertools.product(lot, repeat=3):
        if (one, mid) in reached and (mid, other) in reached:
            reached.add((one, other))
    given = {key for _, _, keys in within for key in keys}
    return bool(lot) and len(reached) == len(lot) ** 2 and all(set(wants[vertex]) <= given for vertex in lot)


def all_lots(wants, arcs):
    vertices = range(len(wants))
    sets = [frozenset(some) for k in range(1, len(wants) + 1) for some in itertools.combinations(vertices, k)]
    return [lot for lot in sets if is_lot(wants, arcs, lot)]


class Graphs(unittest.TestCase):
    def calls(self, wants, arcs):
        return [lambda: fair_lots(wants, arcs), lambda: is_fair_lot(wants, arcs, None), lambda: fair_tour(wants, arcs, None, None),
                lambda: tour_fault(wants, arcs, 0, None), lambda: no_lot_paper(wants, arcs), lambda: no_lot_fault(wants, arcs, None)]

    def refused(self, wants, arcs, what, at):
        for call in self.calls(wants, arcs):
            self.assertEqual(raised(self, BadGraph, call), {"what": what, "at": at}, (wants, arcs))

    def test_wrong_wants(self):
        for wants in NO_SEQUENCES:
            self.refused(wants, None, "wants", 0)
        for keys in NO_SEQUENCES + ([True], [1, None], ["1"], [[1]], [1.0]):
            self.refused([keys, None], None, "wants", 0)
            self.refused([[1], (), keys, None], None, "wants", 2)

    def test_at_most_30000_vertices(self):
        self.refused([[]] * 30001, [], "wants", 0)
        self.refused([None] * 30001, None, "wants", 0)
        self.assertEqual(len(fair_lots([[]] * 30000, [])), 30000)

    def test_wrong_arcs(self):
        for arcs in NO_SEQUENCES:
            self.refused([[], []], arcs, "arcs", 0)
        wrong = NO_SEQUENCES + ((), (0, 1), (0, 1, [], []), (2, 0, []), (0, 2, []), (-1, 0, []), (0, -1, []), {0: 0, 1: 1, 2: []})
        wrong += tuple((thing, 0, []) for thing in NO_WHOLES) + tuple((0, thing, []) for thing in NO_WHOLES)
        wrong += tuple((0, 1, keys) for keys in NO_SEQUENCES + ([True], [None], ["1"], [1, [1]]))
        for arc in wrong:
            self.refused([[], []], [arc, None], "arcs", 0)
            self.refused(((), [3]), ([0, 1, ()], (1, 1, [3]), arc), "arcs", 2)
        self.refused([], [(0, 0, [])], "arcs", 0)

    def test_what_is_passed_stays_as_it_was(self):
        wants, arcs = [[2, 1, 2], []], [[0, 1, [2, 1]], [1, 0, []]]
        lot, tour, steps = [1, 0], [0, 1], [[0, "apart", [0]]]
        fair_lots(wants, arcs)
        is_fair_lot(wants, arcs, lot)
        fair_tour(wants, arcs, lot, 0)
        tour_fault(wants, arcs, 0, tour)
        no_lot_paper(wants, arcs)
        no_lot_fault(wants, arcs, steps)
        self.assertEqual((wants, arcs), ([[2, 1, 2], []], [[0, 1, [2, 1]], [1, 0, []]]))
        self.assertEqual((lot, tour, steps), ([1, 0], [0, 1], [[0, "apart", [0]]]))


class Lots(unittest.TestCase):
    def test_against_a_search_through_all_sets(self):
        for wants, arcs in graphs():
            lots = all_lots(wants, arcs)
            greatest = sorted(tuple(sorted(lot)) for lot in lots if not any(lot < other for other in lots))
            told = fair_lots(wants, arcs)
            self.assertEqual(told, tuple(greatest), (wants, arcs))
            self.assertTrue(all(type(lot) is tuple for lot in told))
            self.assertEqual(fair_lots(tuple(map(tuple, wants)), tuple(map(list, arcs))), told)

    def test_fair_lots_in_any_order(self):
        for wants, arcs in graphs()[:300]:
            for k in range(len(wants) + 1):
                for lot in itertools.permutations(range(len(wants)), k):
                    self.assertIs(is_fair_lot(wants, arcs, list(lot)), is_lot(wants, arcs, set(lot)))

    def test_by_hand(self):
        self.assertEqual(fair_lots([], []), ())
        self.assertEqual(fair_lots([[]], []), ((0,),))
        self.assertEqual(fair_lots([[5]], []), ())
        self.assertEqual(fair_lots([[5]], [(0, 0, [5])]), ((0,),))
        self.assertEqual(fair_lots([[5], []], [(0, 1, [5])]), ((1,),))
        self.assertEqual(fair_lots([[5], []], [(0, 1, [5]), (1, 0, [])]), ((0, 1),))
        self.assertEqual(fair_lots([[5, 5, -1], [HUGE]], [(0, 1, [HUGE, 5]), (1, 0, [-1])]), ((0, 1),))
        self.assertEqual(fair_lots([[], [], [], []], [(3, 1, []), (1, 3, [])]), ((0,), (1, 3), (2,)))
        # An arc that leads out of the lot gives it nothing.
        self.assertEqual(fair_lots([[1], [], []], [(0, 1, []), (1, 0, []), (0, 2, [1])]), ((1,), (2,)))

    def test_a_vertex_that_leaves_takes_its_keys_along(self):
        wants = [[9], [1], [2], []]
        arcs = [(0, 1, [1]), (1, 0, []), (1, 2, [2]), (2, 1, []), (2, 3, []), (3, 2, [])]
        self.assertEqual(fair_lots(wants, arcs), ((3,),))
        self.assertEqual(fair_lots([[]] + wants[1:], arcs), ((0, 1, 2, 3),))

    def test_keys_that_others_still_give(self):
        wants, arcs = [[9], [1], [1]], [(0, 1, [1]), (1, 0, [1]), (1, 2, [1]), (2, 1, [])]
        self.assertEqual(fair_lots(wants, arcs), ((1, 2),))
        self.assertEqual(fair_lots(wants, arcs[:2] + [(1, 2, []), (2, 1, [])]), ())

    def test_dense_graphs_against_a_search(self):
        for seed in range(300):
            dice = random.Random(seed)
            n = dice.randint(3, 6)
            arcs = [(one, other, dice.sample([0, 1, 2, 3], dice.randint(0, 2))) for one in range(n) for other in range(n)
                    if dice.random() < 0.6]
            wants = [dice.sample([0, 1, 2, 3, 4], dice.choice([0, 1, 1, 2])) for _ in range(n)]
            lots = all_lots(wants, arcs)
            greatest = sorted(tuple(sorted(lot)) for lot in lots if not any(lot < other for other in lots))
            self.assertEqual(fair_lots(wants, arcs), tuple(greatest), (wants, arcs))

    def test_several_arcs_with_the_same_ends(self):
        arcs = [(0, 1, [1]), (0, 1, [2]), (1, 0, []), (1, 0, [3, 3])]
        self.assertEqual(fair_lots([[1, 2], [3]], arcs), ((0, 1),))
        self.assertEqual(fair_lots([[1, 2], [4]], arcs), ())

    def test_no_lots(self):
        wants, arcs = [[], [], []], [(0, 1, []), (1, 0, [])]
        for lot in NO_SEQUENCES + ([], (), [3], [-1], [0, 0], [0, 1, 0], [True], [0, True], [None], ["0"], [[0]], [0, 2], [0.0]):
            self.assertIs(is_fair_lot(wants, arcs, lot), False, lot)
        for lot in ([0], [2], (1, 0), [0, 1]):
            self.assertIs(is_fair_lot(wants, arcs, lot), True)


class Tours(unittest.TestCase):
    def check(self, wants, arcs, lot, vertex):
        tour = fair_tour(wants, arcs, lot, vertex)
        self.assertIs(type(tour), tuple)
        self.assertIsNone(fault_by_words(wants, arcs, vertex, tour))
        self.assertTrue(all(arcs[arc][0] in lot and arcs[arc][1] in lot for arc in tour))
        keys = {key for member in lot for key in wants[member]}
        self.assertLessEqual(len(tour), len(lot) * (len(keys) + 1))
        return tour

    def test_through_all_lots(self):
        for wants, arcs in graphs():
            for lot in all_lots(wants, arcs):
                for vertex in lot:
                    self.check(wants, arcs, sorted(lot, reverse=True), vertex)

    def test_great_rings(self):
        for n in (1, 2, 50, 3000):
            for step in (1, n - 1):
                wants = [[key] for key in range(n)]
                arcs = [(vertex, (vertex + 1) % n, [(vertex * step) % n]) for vertex in range(n)]
                self.check(wants, arcs, tuple(range(n)), n // 2)

    def test_random_lots(self):
        for seed in range(60):
            dice = random.Random(seed)
            n = dice.randint(2, 40)
            arcs = [(k, (k + 1) % n, [dice.randrange(9)]) for k in range(n)]
            arcs += [(dice.randrange(n), dice.randrange(n), dice.sample(range(9), 2)) for _ in range(dice.randint(0, n))]
            given = sorted({key for _, _, keys in arcs for key in keys})
            wants = [dice.choices(given, k=dice.randint(0, 3)) for _ in range(n)]
            self.check(wants, arcs, list(range(n)), dice.randrange(n))

    def test_by_hand(self):
        self.assertEqual(fair_tour([[]], [], [0], 0), ())
        self.assertEqual(fair_tour([[7]], [(0, 0, [1]), (0, 0, [7])], [0], 0), (1,))
        self.assertEqual(fair_tour([[7], []], [(0, 1, []), (1, 0, [7])], [0, 1], 1), (1, 0))

    def test_no_tours(self):
        wants, arcs = [[], [], [1]], [(0, 1, []), (1, 0, [])]
        for lot in NO_SEQUENCES + ([], [3], [0, 0], [True], [0, 2], [2], [0, 1, 2]):
            self.assertEqual(raised(self, NoTour, fair_tour, wants, arcs, lot, 0), {})
        for vertex in (1, 2, 3, -1, None, False, "0", [0]):
            self.assertEqual(raised(self, NoTour, fair_tour, wants, arcs, [0], vertex), {})
        self.assertEqual(raised(self, NoTour, fair_tour, wants, arcs, [1, 0], True), {})

    def test_judged_tours(self):
        words = set()
        for at, (wants, arcs) in enumerate(graphs()):
            dice = random.Random(at)
            for vertex in range(len(wants)):
                for _ in range(4):
                    tour, here = [], vertex
                    for _ in range(dice.randint(0, 6)):
                        nexts = [k for k, arc in enumerate(arcs) if arc[0] == here]
                        if nexts:
                            tour.append(dice.choice(nexts))
                            here = arcs[tour[-1]][1]
                    if tour and dice.random() < 0.3:
                        tour[dice.randrange(len(tour))] = dice.randrange(len(arcs) + 1)
                    fault = fault_by_words(wants, arcs, vertex, tour)
                    words.add(fault)
                    self.assertEqual(tour_fault(wants, arcs, vertex, tour), fault)
                    self.assertEqual(tour_fault(wants, arcs, vertex, tuple(tour)), fault)
        self.assertEqual(words, {None, "arc", "path", "open", "unfair"})

    def test_faults_in_their_order(self):
        wants, arcs = [[1], [2]], [(0, 1, [1]), (1, 0, [2]), (0, 0, [3])]
        self.assertIsNone(tour_fault(wants, arcs, 0, [0, 1]))
        for tour in NO_SEQUENCES + ([3], [-1], [0, True], [None], ["0"], [1, 0, 3], [[0]]):
            self.assertEqual(tour_fault(wants, arcs, 0, tour), "arc", tour)
        self.assertEqual(tour_fault(wants, arcs, 0, [1]), "path")
        self.assertEqual(tour_fault(wants, arcs, 0, [0, 0, 1]), "path")
        self.assertEqual(tour_fault(wants, arcs, 0, [0]), "open")
        self.assertEqual(tour_fault(wants, arcs, 0, [2]), "unfair")
        self.assertEqual(tour_fault(wants, arcs, 0, ()), "unfair")
        self.assertIsNone(tour_fault([[], [1]], [], 0, ()))


def fault_by_words(wants, arcs, vertex, tour):
    if any(not 0 <= arc < len(arcs) for arc in tour):
        return "arc"
    stops = [vertex] + [arcs[arc][1] for arc in tour]
    if [arcs[arc][0] for arc in tour] != stops[:-1]:
        return "path"
    if stops[-1] != vertex:
        return "open"
    given = {key for arc in tour for key in arcs[arc][2]}
    return None if {key for stop in stops for key in wants[stop]} <= given else "unfair"


def paper_fault_by_words(wants, arcs, steps):
    """Return what [9.4] tells of a sequence of steps, with a list of sets."""
    if not isinstance(steps, (list, tuple)):
        return 0, "step"
    parts = [set(range(len(wants)))]
    for place, step in enumerate(steps):
        if not isinstance(step, (list, tuple)) or len(step) != 3 or type(step[0]) is not int or not 0 <= step[0] < len(parts):
            return place, "step"
        part, word, what = step
        if word not in ("apart", "key") or (word == "key" and type(what) is not int):
            return place, "step"
        if word == "key":
            if any(one in parts[part] and other in parts[part] and what in keys for one, other, keys in arcs):
                return place, "given"
            parts[part] = {vertex for vertex in parts[part] if what not in wants[vertex]}
            continue
        if not isinstance(what, (list, tuple)) or any(type(vertex) is not int for vertex in what) or \
                len(set(what)) < len(what) or not set(what) <= parts[part]:
            return place, "lower"
        others = parts[part] - set(what)
        if any(one in others and other in what for one, other, _ in arcs):
            return place, "arc"
        parts[part] = set(what)
        parts.append(others)
    return (len(steps), "left") if any(parts) else None


class Papers(unittest.TestCase):
    def test_exactly_one_of_lot_and_paper(self):
        for wants, arcs in graphs():
            paper = no_lot_paper(wants, arcs)
            self.assertIs(paper is None, bool(all_lots(wants, arcs)))
            if paper is not None:
                self.assertIsNone(paper_fault_by_words(wants, arcs, paper))
                self.assertIsNone(no_lot_fault(wants, arcs, paper))
                self.assertIsNone(no_lot_fault(wants, arcs, [[k, word, list(what) if word == "apart" else what]
                                                             for k, word, what in paper]))
                self.assertEqual({type(thing) for thing in (paper,) + paper}, {tuple})
                self.assertTrue(all(type(what) is tuple for _, word, what in paper if word == "apart"))

    def test_by_hand(self):
        self.assertEqual(no_lot_paper([], []), ())
        self.assertIsNone(no_lot_fault([], [], ()))
        self.assertIsNone(no_lot_paper([[]], []))
        self.assertEqual(no_lot_paper([[4]], []), ((0, "key", 4),))
        wants, arcs = [[4], [5]], [(0, 1, [4, 5])]
        self.assertIsNone(no_lot_fault(wants, arcs, [(0, "apart", [0]), (1, "key", 5), (0, "key", 4)]))
        self.assertEqual(no_lot_fault(wants, arcs, [(0, "apart", [1])]), (0, "arc"))
        self.assertEqual(no_lot_fault(wants, arcs, [(0, "key", 6), (0, "key", 4)]), (1, "given"))
        self.assertEqual(no_lot_fault(wants, arcs, [(0, "apart", [0]), (0, "key", 4)]), (2, "left"))
        self.assertEqual(no_lot_fault(wants, arcs, ()), (0, "left"))

    def test_lower_may_be_empty_or_the_whole_part(self):
        wants, arcs = [[4], [5]], [(0, 1, [4, 5])]
        steps = [(0, "apart", ()), (1, "apart", [1, 0]), (0, "key", 1), (2, "key", 1), (1, "apart", [0]), (3, "key", 5), (1, "key", 4)]
        self.assertIsNone(no_lot_fault(wants, arcs, steps))
        self.assertIsNone(no_lot_fault([], [], [(0, "apart", []), (1, "apart", []), (0, "key", 7)]))

    def test_wrong_steps(self):
        wants, arcs = [[4], [5], [4]], [(0, 1, [4, 5]), (2, 2, [4])]
        for steps in NO_SEQUENCES:
            self.assertEqual(no_lot_fault(wants, arcs, steps), (0, "step"))
        good = (0, "apart", [2])
        for step in NO_SEQUENCES + ((), (0, "key"), (0, "key", 1, 1), (2, "key", 1), (-1, "key", 1), (True, "key", 1), (None, "key", 1),
                                    (0, "kex", 1), (0, None, 1), (0, ["key"], 1), (0, 1, 1), (0, "key", None), (0, "key", True),
                                    (0, "key", [1]), (0, "key", "4"), (9, "apart", None)):
            self.assertEqual(no_lot_fault(wants, arcs, [good, step, None]), (1, "step"), step)
        for lower in NO_SEQUENCES + ([0], [2, 2], [2, 0], [3], [-1], [True], [None], ["2"], [[2]], [2.0]):
            self.assertEqual(no_lot_fault(wants, arcs, [good, (0, "apart", lower), None]), (1, "lower"), lower)
        self.assertEqual(no_lot_fault(wants, arcs, [good, (1, "apart", [2])]), (1, "lower"))
        self.assertEqual(no_lot_fault(wants, arcs, [good, (1, "apart", [1]), None]), (1, "arc"))
        self.assertEqual(no_lot_fault(wants, arcs, [good, (1, "key", 5), None]), (1, "given"))
        self.assertEqual(no_lot_fault(wants, arcs, [good, (0, "key", 4), None]), (1, "given"))
        self.assertEqual(no_lot_fault(wants, arcs, [good, (1, "apart", [0]), (2, "key", 5), (1, "key", 4)]), (4, "left"))

    def test_bent_papers(self):
        words = set()
        for at, (wants, arcs) in enumerate(graphs()):
            dice = random.Random(at)
            paper = list(no_lot_paper(wants, arcs) or ())
            for _ in range(6):
                steps = list(paper)
                for _ in range(dice.randint(1, 3)):
                    lower = tuple(dice.sample(range(len(wants)), dice.randint(0, len(wants))))
                    step = dice.choice([(dice.randrange(3), "apart", lower), (dice.randrange(3), "key", dice.choice([0, 1, -3, HUGE]))])
                    steps.insert(dice.randint(0, len(steps)), step)
                if dice.random() < 0.4:
                    del steps[dice.randrange(len(steps))]
                fault = paper_fault_by_words(wants, arcs, steps)
                words.add(fault and fault[1])
                self.assertEqual(no_lot_fault(wants, arcs, steps), fault, (wants, arcs, steps))
        self.assertEqual(words, {None, "step", "lower", "arc", "given", "left"})

    def test_random_steps(self):
        for seed in range(400):
            dice = random.Random(seed)
            wants, arcs = random_graph(seed, 9)
            steps, many = [], 1
            while paper_fault_by_words(wants, arcs, steps) not in (None,) and len(steps) < 12:
                lower = dice.sample(range(len(wants)), dice.randint(0, len(wants)))
                step = dice.choice([(dice.randrange(many), "apart", lower), (dice.randrange(many), "key", dice.choice([0, 1, -3, HUGE]))])
                fault = paper_fault_by_words(wants, arcs, steps + [step])
                self.assertEqual(no_lot_fault(wants, arcs, steps + [step]), fault)
                if fault is None or fault[1] == "left":
                    steps.append(step)
                    many += step[1] == "apart"

    def test_many_vertices(self):
        n = 30000
        # Keys are lost one after the other from the first vertex on, or each vertex stands alone.
        rows = [(vertex, vertex + 1, [vertex + 1]) for vertex in range(n - 1)]
        back = [(vertex + 1, vertex, []) for vertex in range(n - 1)]
        for arcs in (rows + back, rows, []):
            wants = [[vertex] for vertex in range(n)]
            self.assertEqual(fair_lots(wants, arcs), ())
            paper = no_lot_paper(wants, arcs)
            self.assertIsNone(no_lot_fault(wants, arcs, paper))
            self.assertEqual(no_lot_fault(wants, arcs, paper[:-1]), (len(paper) - 1, "left"))
        self.assertEqual(fair_lots([[n - 1]] * n, rows + back), (tuple(range(n)),))
