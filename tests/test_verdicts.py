"""[9.6] to [9.8]."""

import functools
import random
import time
import unittest

from spentframes.codes import deep_code
from spentframes.compiled import pair_system
from spentframes.errors import TooMany
from spentframes.lots import no_lot_fault
from spentframes.makers import chain_order, flat_order
from spentframes.needs import need_of
from spentframes.nets import Net
from spentframes.outcomes import Above, Back, Stuck, breaks
from spentframes.runs import end_of
from spentframes.systems import System
from spentframes.tables import NodeTable
from spentframes.verdicts import judge, reached, right_fault, right_paper, run_to, wrong_graph
from tests.helpers import form_orders, raised, random_system, relay_system
from tests.test_runs import showing

MOST = 400


def first_runs(system):
    """Return the first run to each standing, run by run; None if there are more than MOST standings."""
    found = {system.first(): ()}
    level = dict(found)
    while level:
        more = {}
        for standing, run in level.items():
            for deed in system.deeds_from(standing):
                behind = system.after(standing, deed)
                if behind not in found:
                    more[behind] = min(more.get(behind, run + (deed,)), run + (deed,))
        found.update(more)
        level = more
        if len(found) > MOST:
            return None
    return found


@functools.lru_cache(maxsize=None)
def small_systems():
    """Return systems of few standings with the first run to each of them."""
    made = [random_system(seed, goals=seed % 3 == 0, seats=3) for seed in range(150)] + right_systems()
    made += [showing(chain_order(3), shows) for shows in ([0, 1, 2], [0, 2, 1], [0, 1, 0], [0, 0, 2], [1, 1, 1])]
    found = [(system, first_runs(system)) for system in made]
    return [(system, runs) for system, runs in found if runs is not None]


def right_systems():
    orders = [order for order in form_orders() if order.n < 8 and need_of(order) < 4][:12]
    return [relay_system()] + [pair_system(deep_code(order, need_of(order))) for order in orders]


def triples(net):
    return [(link, way, frame) for link in range(len(net)) for way in (0, 1) for frame in range(net.links[link][2])]


def graph_by_words(system, standings):
    """Return what [9.8] tells of the wrong graph."""
    wrong = [standing for standing in standings if system.shown(standing) != standing[2]]
    keys = triples(system.net)
    wants = tuple(tuple(keys.index(triple) for triple in system.sending(standing)) for standing in wrong)
    arcs = []
    for at, standing in enumerate(wrong):
        for deed in system.deeds_from(standing):
            behind = system.after(standing, deed)
            if deed[0] == "deliver" and behind in wrong:
                arcs.append((at, wrong.index(behind), (keys.index(deed[1:]),)))
    return wants, tuple(arcs)


def greatest_lots(wants, arcs):
    """Return the greatest fair lots by taking away what cannot be in one, again and again."""
    waiting, lots = [set(range(len(wants)))], []
    while waiting:
        part = waiting.pop()
        behind = {one: {target for source, target, _ in arcs if source == one and target in part} for one in part}
        reach = {one: {one} for one in part}
        for one in part:
            level = [one]
            while level:
                level = [target for vertex in level for target in behind[vertex] - reach[one] if not reach[one].add(target)]
        strong = {frozenset(other for other in reach[one] if one in reach[other]) for one in part}
        for lot in strong:
            given = {key for source, target, keys in arcs if source in lot and target in lot for key in keys}
            kept = {one for one in lot if set(wants[one]) <= given}
            if kept == lot:
                lots.append(sorted(lot))
            elif kept:
                waiting.append(kept)
    return sorted(lots)


def verdict_by_words(system, runs):
    """Return (class, run, standings on stuck fair loops) of the verdict that [9.7] tells, None for a right system."""
    order = system.order
    above = [run for standing, run in runs.items() if not order.at_most(system.shown(standing), standing[2])]
    if above:
        return Above, min(above, key=lambda run: (len(run), run))
    back = []
    for standing, run in runs.items():
        for deed in system.deeds_from(standing):
            if not order.at_most(system.shown(standing), system.shown(system.after(standing, deed))):
                back.append(run + (deed,))
    if back:
        return Back, min(back, key=lambda run: (len(run), run))
    standings = sorted(runs, key=lambda standing: (len(runs[standing]), runs[standing]))
    wrong = [standing for standing in standings if system.shown(standing) != standing[2]]
    lots = greatest_lots(*graph_by_words(system, standings))
    return (Stuck, runs[wrong[min(lots)[0]]]) if lots else None


class Reached(unittest.TestCase):
    def test_all_standings_each_with_its_first_run(self):
        for system, runs in small_systems():
            wanted = sorted(runs, key=lambda standing: (len(runs[standing]), runs[standing]))
            self.assertEqual(reached(system), tuple(wanted))
            for standing in random.Random(1).sample(wanted, min(4, len(wanted))) + wanted[-1:]:
                self.assertEqual(run_to(system, standing), runs[standing])
                self.assertEqual(end_of(system, runs[standing]), standing)
            self.assertEqual(run_to(system, system.first()), ())

    def test_just_as_many_as_let_and_one_more(self):
        for system, runs in small_systems()[::5]:
            many = len(runs)
            self.assertEqual(len(reached(system, many)), many)
            self.assertEqual(run_to(system, system.first(), many), ())
            self.assertEqual(judge(system, many), judge(system))
            self.assertEqual(right_paper(system, many), right_paper(system))
            if many > 1:
                for call in (reached, judge, right_paper):
                    self.assertEqual(raised(self, TooMany, call, system, many - 1), {"most": many - 1})
                    self.assertEqual(raised(self, TooMany, call, system, 1), {"most": 1})
                self.assertEqual(raised(self, TooMany, run_to, system, system.first(), many - 1), {"most": many - 1})

    def test_one_standing(self):
        net = Net(2, 0, 1, ())
        system = System(net, [NodeTable([[]], [[]], [[]]), NodeTable([[]], [[]], None, [0])], flat_order(1))
        self.assertEqual(reached(system, 1), (system.first(),))
        self.assertIsNone(judge(system, most=1))
        self.assertEqual(right_paper(system, 1), ((system.first(),), ()))

    def test_too_many_comes_ahead_of_a_wrong_standing(self):
        system = showing(chain_order(3), [1, 1, 1])
        self.assertEqual(raised(self, TooMany, judge, system, 1), {"most": 1})
        self.assertEqual(judge(system), Above(()))


class Judged(unittest.TestCase):
    def test_against_a_search(self):
        kinds = set()
        for system, runs in small_systems():
            wanted, found = verdict_by_words(system, runs), judge(system)
            kinds.add(type(found))
            if wanted is None:
                self.assertIsNone(found)
                continue
            self.assertEqual((type(found), found.run), wanted)
            self.assertTrue(breaks(system, found))
            if isinstance(found, Stuck):
                self.assertLessEqual(len(found.loop), len(runs) * (len(triples(system.net)) + 1))
                standing = end_of(system, found.run)
                for deed in found.loop:
                    self.assertNotEqual(system.shown(standing), standing[2])
                    standing = system.after(standing, deed)
                self.assertEqual(standing, end_of(system, found.run))
        self.assertEqual(kinds, {type(None), Above, Back, Stuck})

    def test_ways_to_fail_one_by_one(self):
        there = ("deliver", 0, 0, 0)
        self.assertEqual(judge(showing(chain_order(3), [0, 2, 2])), Above((("rise", 1), there)))
        late = showing(chain_order(2), [0, 1, 0], spent=[(0, 0, 1)])
        self.assertEqual(judge(late), Back((("rise", 1), there, ("deliver", 0, 0, 1))))
        self.assertEqual(judge(showing(chain_order(2), [0, 0, 0])), Stuck((("rise", 1), there), (there,)))

    def test_the_first_of_several_runs_that_turn_back(self):
        # Each of the seats 1 and 2 is left for one that shows 0 again.
        net = Net(2, 0, 1, [(0, 1, 3, "loose")])
        source = NodeTable([[], [(0, 0), (0, 1), (0, 2)]], [[], []], [[(1, 1)], []])
        sink = NodeTable([[]] * 4, [[(0, 0, 1), (0, 1, 2)], [(0, 1, 3), (0, 2, 3)], [(0, 0, 3), (0, 2, 0)], []], None, [0, 1, 1, 0])
        system = System(net, [source, sink], chain_order(2))
        self.assertEqual(judge(system), Back((("rise", 1), ("deliver", 0, 0, 0), ("deliver", 0, 0, 1))))
        self.assertEqual((type(judge(system)), judge(system).run), verdict_by_words(system, first_runs(system)))

    def test_right_systems(self):
        for system in right_systems():
            self.assertIsNone(judge(system))


class Papers(unittest.TestCase):
    def test_wrong_graphs(self):
        for system, runs in small_systems()[::3]:
            standings = list(runs)
            random.Random(2).shuffle(standings)
            for some in (standings, tuple(standings[::2]), ()):
                self.assertEqual(wrong_graph(system, some), graph_by_words(system, some))

    def test_papers_of_right_systems(self):
        for system in right_systems():
            standings, steps = paper = right_paper(system)
            self.assertEqual(standings, reached(system))
            self.assertIsNone(no_lot_fault(*wrong_graph(system, standings), steps))
            self.assertIsNone(right_fault(system, paper))
            self.assertIsNone(right_fault(system, [list(standings)[::-1], list(steps)])
                              if not steps else right_fault(system, [list(standings), [list(step) for step in steps]]))

    def test_no_paper_for_others(self):
        for system, _ in small_systems():
            self.assertEqual(right_paper(system) is None, judge(system) is not None)

    def test_bent_papers(self):
        for system in right_systems():
            standings, steps = right_paper(system)
            for thing in (None, 5, "ab", (), (standings,), (standings, steps, ()), (None, steps), (standings, None), {}):
                self.assertEqual(right_fault(system, thing), ("paper", 0))
            self.assertEqual(right_fault(system, (standings[1:], steps)), ("first", 0))
            self.assertEqual(right_fault(system, ((), ())), ("first", 0))
            if len(standings) > 1:
                word, at = right_fault(system, (standings[:-1], steps))
                self.assertEqual(word, "closed")
                behind = [system.after(standings[at], deed) for deed in system.deeds_from(standings[at])]
                self.assertIn(standings[-1], behind)
            if steps:
                self.assertEqual(right_fault(system, (standings, steps[:-1])), ("steps", len(steps) - 1))
                self.assertEqual(right_fault(system, (standings, (None,) + steps)), ("steps", 0))
                self.assertEqual(right_fault(system, (standings, ())), ("steps", 0))

    def test_no_paper_shows_a_wrong_system_to_be_right(self):
        words = set()
        for system, runs in small_systems():
            if judge(system) is None:
                continue
            standings = reached(system)
            fault = right_fault(system, (standings, ()))
            self.assertIsNotNone(fault)
            words.add(fault[0])
            if fault[0] == "above":
                self.assertEqual(standings[fault[1]], end_of(system, judge(system).run))
            if fault[0] == "back":
                self.assertEqual(standings[fault[1]], end_of(system, judge(system).run[:-1]))
        self.assertEqual(words, {"above", "back", "steps"})

    def test_what_is_passed_stays_as_it_was(self):
        system = relay_system()
        standings, steps = right_paper(system)
        paper = [list(standings), [list(step) for step in steps]]
        copy = [list(standings), [list(step) for step in steps]]
        right_fault(system, paper)
        wrong_graph(system, paper[0])
        self.assertEqual(paper, copy)


class Great(unittest.TestCase):
    """Rings and chains of thousands of seats."""

    def sink(self, n, ring, shows):
        net = Net(2, 0, 1, [(0, 1, 6, "loose"), (1, 0, 6, "loose")])
        moves = [[(k % 2, k % 6, (k + 1) % n)] for k in range(n if ring else n - 1)] + ([] if ring else [[]])
        source = NodeTable([[], [(0, 0)]], [[], []], [[(1, 1)], []])
        table = NodeTable([[(k % 2, k % 6)] for k in range(n)], moves, None, shows)
        return System(net, [source, table], chain_order(2), None, triples(net)[:6] + [(1, 1, k) for k in range(6)])

    def timed(self, call, *given):
        began = time.monotonic()
        found = call(*given)
        self.assertLess(time.monotonic() - began, 20)
        return found

    def test_rings(self):
        system = self.sink(6000, True, [0] * 6000)
        self.assertGreater(len(self.timed(reached, system)), 12000)
        found = self.timed(judge, system)
        self.assertIsInstance(found, Stuck)
        self.assertTrue(breaks(system, found))
        self.assertIsNone(self.timed(right_paper, system))

    def test_chains(self):
        system = self.sink(6000, False, [0] * 6000)
        found = self.timed(judge, system)
        self.assertTrue(breaks(system, found))
        system = self.sink(5000, False, [0] * 4999 + [1])
        found = self.timed(judge, system)
        self.assertEqual((type(found), len(found.run)), (Above, 4999))

    def test_a_right_chain(self):
        # The source sends on frame 0 alone, and each seat of the sink takes it once more.
        n, net = 5000, Net(2, 0, 1, [(0, 1, 1, "loose")])
        source = NodeTable([[], [(0, 0)]], [[], []], [[(1, 1)], []])
        sink = NodeTable([[]] * n, [[(0, 0, k + 1)] for k in range(n - 1)] + [[]], None, [0] * (n - 1) + [1])
        system = System(net, [source, sink], chain_order(2))
        self.assertIsNone(self.timed(judge, system))
        paper = self.timed(right_paper, system)
        self.assertEqual(len(paper[0]), n + 1)
        self.assertIsNone(self.timed(right_fault, system, paper))

    def test_thirty_thousand_standings(self):
        system = self.sink(14994, True, [0] * 14994)
        many = len(self.timed(reached, system))
        self.assertTrue(29900 < many <= 30000)
        self.assertEqual(len(reached(system, many)), many)
        self.assertEqual(raised(self, TooMany, judge, system, many - 1), {"most": many - 1})
        self.assertEqual(raised(self, TooMany, reached, self.sink(16000, True, [0] * 16000)), {"most": 30000})


if __name__ == "__main__":
    unittest.main()
