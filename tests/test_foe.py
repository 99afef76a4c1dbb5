"""[10.1] to [10.7]."""

import random
import unittest

from spentframes.codes import deep_code
from spentframes.compiled import net_system, pair_system
from spentframes.cuts import each_side, frames_across, least_cut
from spentframes.errors import BadRun, BadSide, BadTargets, NotAtRest, TooMany
from spentframes.flows import greatest_paths
from spentframes.foe import break_by, settle, told_apart
from spentframes.goals import deal_goals, rows_system
from spentframes.makers import chain_order, flat_order
from spentframes.needs import need_of, need_table
from spentframes.nets import Net
from spentframes.outcomes import Above, Back, Stuck, Told, breaks
from spentframes.rows import begins_row
from spentframes.runs import end_of, round_from, run_fault, view_of
from spentframes.systems import System
from spentframes.tables import NodeTable
from spentframes.verdicts import judge
from tests.helpers import form_orders, raised, random_code, random_net, random_run, random_system, random_table, relay_system
from tests.test_runs import showing

MOST = 200


def settled_by_words(system, standing, held, most):
    """Return (deeds, loop, number of rounds) of [10.2], None if no standing comes twice behind so many rounds."""
    standings, done = [standing], []
    while len(done) < most:
        deeds, behind = round_from(system, standings[-1], held)
        done.append(deeds)
        if behind in standings:
            first = standings.index(behind)
            return sum(done[:first], ()), sum(done[first:], ()), len(done)
        standings.append(behind)
    return None


def at_rest_by_words(system, standing, most):
    deeds, loop, _ = settled_by_words(system, standing, (), most)
    shown = [system.shown(standing)]
    for deed in loop:
        standing = system.after(standing, deed)
        shown.append(system.shown(standing))
    return not deeds and set(shown) == {standing[2]}


class Apart:
    """[10.3], word by word: each member is a list (state, run so far, looked-at deeds)."""

    def __init__(self, system, run, targets, side, most):
        self.system, self.most, self.begun = system, most, len(run)
        sent = end_of(system, run)[1]
        self.unspent = [triple for triple in frames_across(system.net, side) if not self.is_sent(sent, triple)]
        x = end_of(system, run)[2]
        self.runs = {x: tuple(run)}
        self.runs.update({target: tuple(run) + (("rise", target),) for target in targets})
        self.looked = {state: len(run) for state in self.runs}
        self.told = {}

    def is_sent(self, sent, triple):
        return triple[2] in sent[triple[0]][triple[1]]

    def outcome(self):
        return self.go_through(sorted(self.runs), ())

    def look(self, states):
        order = self.system.order
        for state in states:
            run = self.runs[state]
            for place in range(self.looked[state], len(run)):
                before, behind = end_of(self.system, run[:place]), end_of(self.system, run[:place + 1])
                if not order.at_most(self.system.shown(behind), state):
                    return Above(run[:place + 1])
                if not order.at_most(self.system.shown(before), self.system.shown(behind)):
                    return Back(run[:place + 1])
            self.looked[state] = len(run)
        return None

    def go_through(self, states, row):
        held = [triple for triple in self.unspent if triple not in row]
        found = [settled_by_words(self.system, end_of(self.system, self.runs[state]), held, self.most) for state in states]
        if None in found:
            raise TooMany(self.most)
        for state in states:
            for _ in range(max(many for _, _, many in found)):
                self.runs[state] += round_from(self.system, end_of(self.system, self.runs[state]), held)[0]
        outcome = self.look(states)
        groups = {}
        for state in states if outcome is None else ():
            standing = end_of(self.system, self.runs[state])
            spent = [triple for triple in held if self.is_sent(standing[1], triple)]
            if spent:
                groups.setdefault(min(spent), []).append(state)
            elif self.system.shown(standing) != state:
                return Stuck(self.runs[state], settled_by_words(self.system, standing, held, 10 ** 6)[1])
            else:
                self.told[state] = (state, row, self.runs[state])
        for triple in sorted(groups):
            for state in groups[triple]:
                self.runs[state] += (("deliver",) + triple,)
            outcome = self.look(groups[triple]) or self.go_through(groups[triple], row + (triple,))
            if outcome is not None:
                return outcome
        return outcome


def told_by_words(system, run, targets, side, most):
    apart = Apart(system, run, targets, side, most)
    outcome = apart.outcome()
    return outcome if outcome is not None else tuple(apart.told[state] for state in sorted(apart.told))


def broken_by_words(system, side, most):
    """Return what [10.6] tells; raises TooMany."""
    if system.shown(system.first()) != 0:
        return Above(())
    found = settled_by_words(system, system.first(), (), most)
    if found is None:
        raise TooMany(most)
    run = found[0] + found[1]
    for place in range(1, len(run) + 1):
        if system.shown(end_of(system, run[:place])) != 0:
            return Above(run[:place])
    sent = end_of(system, found[0])[1]
    row = tuple(triple for triple in frames_across(system.net, side) if triple[2] in sent[triple[0]][triple[1]])
    places = {(0,): (row, found[0])}
    done = set()
    while set(places) - done:
        route = min(set(places) - done, key=lambda route: (len(route), route))
        done.add(route)
        targets = system.order.covers(route[-1])
        if system.goals is not None:
            targets = system.goals if route == (0,) else ()
        if targets:
            told = told_by_words(system, places[route][1], targets, side, most)
            if not isinstance(told, tuple):
                return told
            for state, row, run in told:
                if state != route[-1]:
                    places[route + (state,)] = (row, run)
                    if len(places) > most:
                        raise TooMany(most)
    return Told(sorted((route,) + places[route] for route in places))


def answer_of(call, *given):
    try:
        return call(*given)
    except TooMany as error:
        return error.most


def compiled_systems():
    made = [relay_system()]
    for at, order in enumerate(form_orders()):
        if need_of(order) > 4 or order.n > 7:
            continue
        code = random_code(order, need_of(order) + at % 2, at)
        made.append(pair_system(code))
        net = Net(4, 0, 3, [(0, 1, 3, "loose"), (1, 3, 3, "loose"), (2, 0, 2, "loose"), (3, 2, 2, "loose"), (1, 2, 1, "loose")])
        made.append(net_system(code, net, greatest_paths(net, 99)))
    return made[:30]


def goal_systems():
    order = chain_order(4)
    made = [rows_system(order, [1, 2, 3], m, deal_goals(order, [3, 1, 2], m)) for m in (2, 3, 4)]
    order = flat_order(6)
    return made + [rows_system(order, goals, m, deal_goals(order, goals, m)) for goals, m in (((1, 2), 2), ((1, 2, 3, 4, 5), 3))]


def bent_systems():
    """Return compiled systems with one entry of a table changed."""
    made = []
    for seed, system in enumerate((compiled_systems() + goal_systems()) * 3):
        dice, tables = random.Random(seed), list(system.tables)
        at = dice.choice([system.net.source, system.net.sink, system.net.sink])
        table = tables[at]
        sends, moves = list(table.sends), list(table.moves)
        shows, seat = table.shows and list(table.shows), dice.randrange(len(table))
        if shows and dice.random() < 0.6:
            shows[seat] = dice.randrange(system.order.n)
        elif moves[seat]:
            link, frame, _ = moves[seat][-1]
            moves[seat] = moves[seat][:-1] + ((link, frame, dice.randrange(len(table))),)
        tables[at] = NodeTable(sends, moves, table.rises, shows)
        made.append(System(system.net, tables, system.order, system.goals))
    return made


def all_systems():
    made = [random_system(seed, goals=seed % 3 == 0) for seed in range(120)]
    return made + compiled_systems() + goal_systems() + bent_systems()


def some_side(system, seed):
    return random.Random(seed).choice(list(each_side(system.net)))


class Settling(unittest.TestCase):
    def test_against_the_words(self):
        for at, system in enumerate(all_systems()):
            standing = end_of(system, random_run(system, 6, at))
            triples = [(link, way, frame) for link, ways in enumerate(standing[1]) for way in (0, 1) for frame in ways[way]]
            for held in ((), triples[::2], [list(triple) for triple in triples[1::2]] + [None]):
                deeds, loop, many = settled_by_words(system, standing, [tuple(t) for t in held if t], 10 ** 6)
                self.assertEqual(settle(system, standing, held), (deeds, loop))
                self.assertEqual(settle(system, standing, held, many), (deeds, loop))
                if many > 1:
                    self.assertEqual(raised(self, TooMany, settle, system, standing, held, many - 1), {"most": many - 1})

    def test_a_loop_of_one_empty_round(self):
        system = relay_system()
        self.assertEqual(settle(system, system.first(), (), 1), ((), ()))
        risen = system.after(system.first(), ("rise", 1))
        self.assertEqual(raised(self, TooMany, settle, system, risen, most=1), {"most": 1})


def resting_runs(system, seed):
    """Return runs to standings at rest, found by rounds behind random runs without a fault."""
    found = []
    for k in range(4):
        run = random_run(system, k, seed + k)
        deeds, loop = settle(system, end_of(system, run))
        run += deeds
        if run_fault(system, run) is None and at_rest_by_words(system, end_of(system, run), 10 ** 6):
            found.append(run)
    return found


class TellingApart(unittest.TestCase):
    def test_against_the_words(self):
        kinds = set()
        for at, system in enumerate(all_systems()):
            for run in resting_runs(system, at):
                standing, side = end_of(system, run), some_side(system, at)
                rises = [deed[1] for deed in system.deeds_from(standing) if deed[0] == "rise"]
                for targets in (rises[::-1], rises[:2], ()):
                    wanted = answer_of(told_by_words, system, run, targets, side, MOST)
                    found = answer_of(told_apart, system, run, targets, side, MOST)
                    self.assertEqual(found, wanted)
                    kinds.add(type(found))
                    if isinstance(found, tuple):
                        self.check_told(system, run, side, found)
                    else:
                        self.assertTrue(breaks(system, found))
        self.assertEqual(kinds, {tuple, Above, Back, Stuck})

    def check_told(self, system, run, side, told):
        """[10.4]."""
        across = frames_across(system.net, side)
        far = [node for node in range(system.net.nodes) if node not in side]
        sent = end_of(system, run)[1]
        spent = {triple for triple in across if triple[2] in sent[triple[0]][triple[1]]}
        for state, row, whole in told:
            standing = end_of(system, whole)
            self.assertTrue(at_rest_by_words(system, standing, 10 ** 6))
            self.assertEqual(whole[:len(run)], tuple(run))
            behind = {triple for triple in across if triple[2] in standing[1][triple[0]][triple[1]]}
            self.assertEqual(behind, spent | set(row))
            for other, row2, whole2 in told:
                if other != state:
                    self.assertNotEqual(row, row2)
                    if begins_row(row, row2):
                        self.assertTrue(system.order.at_most(state, other))
                    self.check_views(system.net, far, across, (row, whole), (row2, whole2))

    def check_views(self, net, far, across, one, other):
        """The far nodes get the same deeds until the first frame in which the rows differ, or the one run ends."""
        (row, run), (row2, run2) = one, other
        same = 0
        while same < min(len(row), len(row2)) and row[same] == row2[same]:
            same += 1
        if same < len(row) and same < len(row2):
            first, second = view_of(net, run, far), view_of(net, run2, far)
            end = first.index(("deliver",) + row[same])
            self.assertEqual(first[:end], second[:end])
        elif same == len(row):
            self.assertEqual(view_of(net, run, far), view_of(net, run2, far)[:len(view_of(net, run, far))])

    def test_errors_in_their_order(self):
        system = relay_system()
        self.assertEqual(raised(self, BadRun, told_apart, system, [("rise", 1), ("rise", 1)], None, None), {"place": 1})
        risen = [("rise", 1)]
        self.assertEqual(raised(self, NotAtRest, told_apart, system, risen, None, None), {})
        self.assertEqual(raised(self, TooMany, told_apart, system, risen, None, None, 1), {"most": 1})
        for targets in (None, "ab", 5, {}):
            self.assertEqual(raised(self, BadTargets, told_apart, system, [], targets, None), {"at": -1})
        cases = [([0], 0), ([2], 0), ([True], 0), ([None], 0), ([1, 1], 1), (["1"], 0), ([1, 0], 1), ([(1,)], 0), ([1.0], 0)]
        for targets, at in cases:
            self.assertEqual(raised(self, BadTargets, told_apart, system, (), targets, None), {"at": at}, targets)
        for side, what in (([1], "source"), ([0, 1], "sink"), (None, "nodes"), ([0, 0], "nodes"), ([], "source"), ([0, 3], "nodes")):
            self.assertEqual(raised(self, BadSide, told_apart, system, [], [1], side), {"what": what})
        self.assertEqual(raised(self, TooMany, told_apart, system, [], [1], [0], 1), {"most": 1})

    def test_targets_with_goals(self):
        system = goal_systems()[0]
        told = told_apart(system, [], [2], [0])
        self.assertEqual([state for state, _, _ in told], [0, 2])
        self.assertEqual(raised(self, BadTargets, told_apart, system, told[1][2], [3], [0]), {"at": 0})
        self.assertEqual(told_apart(system, told[1][2], [], [0])[0][:2], (2, ()))

    def test_a_run_with_a_fault(self):
        there = ("deliver", 0, 0, 0)
        system = showing(chain_order(3), [0, 2, 2])
        run = [["rise", 1], list(there), ("rise", 2)]
        self.assertEqual(told_apart(system, run, None, None), Above((("rise", 1), there)))
        self.assertEqual(told_apart(showing(chain_order(3), [1, 1, 1]), (), None, None), Above(()))
        late = showing(chain_order(2), [0, 1, 0], spent=[(0, 0, 1)])
        run = [("rise", 1), there, ("deliver", 0, 0, 1)]
        self.assertEqual(told_apart(late, run + run[1:], 5, 5), Back(run))

    def test_nothing_passed_is_changed(self):
        system = relay_system()
        run, targets, side = [], [1], [2, 0]
        told = told_apart(system, run, targets, side)
        self.assertEqual((run, targets, side), ([], [1], [2, 0]))
        self.assertEqual([(state, row) for state, row, _ in told], [(0, ()), (1, ((1, 1, 0),))])


class Breaking(unittest.TestCase):
    def test_against_the_words(self):
        kinds = set()
        for at, system in enumerate(all_systems()):
            side = some_side(system, at)
            wanted = answer_of(broken_by_words, system, side, MOST)
            found = answer_of(break_by, system, side, MOST)
            self.assertEqual(found, wanted)
            kinds.add(type(found))
            if not isinstance(found, (Told, int)):
                self.assertTrue(breaks(system, found))
        self.assertEqual(kinds, {Above, Back, Stuck, Told})

    def test_right_systems_are_told_on_every_side(self):
        for system in compiled_systems()[:12] + goal_systems():
            for side in each_side(system.net):
                found = break_by(system, list(side)[::-1])
                self.assertIsInstance(found, Told)
                if system.goals is None:
                    self.check_lengths(system, side, found.rows)
                else:
                    self.assertEqual([route for route, _, _ in found.rows], [(0,)] + [(0, goal) for goal in system.goals])

    def check_lengths(self, system, side, rows):
        """[10.7]: the row of a cover leaves the cover its need."""
        needs, across = need_table(system.order), frames_across(system.net, side)
        ends = {route: end_of(system, run)[1] for route, _, run in rows}
        courses = {course[:k] for course in system.order.each_course(0) for k in range(1, len(course) + 1)}
        self.assertEqual([route for route, _, _ in rows], sorted(courses))
        for route, row, _ in rows:
            if len(route) > 1:
                sent = ends[route[:-1]]
                unspent = len([triple for triple in across if triple[2] not in sent[triple[0]][triple[1]]])
                self.assertTrue(1 <= len(row) <= unspent - needs[route[-1]])

    def test_too_few_frames_whatever_the_tables(self):
        broken = 0
        for seed in range(150):
            dice = random.Random(seed)
            net = random_net(seed)
            size, side = least_cut(net)
            orders = [order for order in form_orders() if order.n < 9]
            order = dice.choice([order for order in orders if need_of(order) > size] or orders)
            tables = [NodeTable(*random_table(net, node, order, dice, dice.randint(1, 6))) for node in range(net.nodes)]
            triples = [(link, way, frame) for link in range(len(net)) for way in (0, 1) for frame in range(net.links[link][2])]
            spent = dice.sample(triples, dice.randint(0, min(3, len(triples))))
            system = System(net, tables, order, None, spent)
            left = len(set(frames_across(net, side)) - set(spent))
            found = answer_of(break_by, system, side, 2000)
            if need_of(order) > left and not isinstance(found, int):
                self.assertTrue(breaks(system, found))
                broken += 1
        self.assertGreater(broken, 80)

    def test_a_right_pair_whose_frames_are_spent(self):
        # With one frame spent before, two frames are no longer enough for a chain of three states.
        code = deep_code(chain_order(3), 2)
        right = pair_system(code)
        self.assertIsNone(judge(right))
        for spent in ([(0, 0, 0)], [(0, 0, 1)]):
            system = System(right.net, right.tables, right.order, None, spent)
            self.assertTrue(breaks(system, break_by(system, (0,))))

    def test_a_loop_that_shows_another_state(self):
        # The source sends frame 0 from the first, and each delivery leads the sink on, round its seats.
        net = Net(2, 0, 1, [(0, 1, 1, "loose")])
        for shows, many in (([0, 1], 1), ([0, 0, 1], 2), ([0, 1, 1], 1)):
            n = len(shows)
            sink = NodeTable([[]] * n, [[(0, 0, (seat + 1) % n)] for seat in range(n)], None, shows)
            system = System(net, [NodeTable([[(0, 0)]], [[]], [[]]), sink], chain_order(2))
            self.assertEqual(break_by(system, [0]), Above([("deliver", 0, 0, 0)] * many))
            self.assertEqual(raised(self, NotAtRest, told_apart, system, (), None, None), {})

    def test_the_side_comes_first(self):
        system = showing(chain_order(2), [1, 1, 1])
        for side, what in (([], "source"), ((0, 1), "sink"), ([2], "nodes"), ("0", "nodes"), ([False], "nodes"), ([1], "source")):
            self.assertEqual(raised(self, BadSide, break_by, system, side), {"what": what})
        self.assertEqual(break_by(system, [0]), Above(()))

    def test_more_places_than_let(self):
        system = pair_system(deep_code(flat_order(5), 4))
        self.assertEqual(len(break_by(system, [0]).rows), 5)
        # Five places take no more rounds than this.
        rounds = next(most for most in range(1, 99) if isinstance(answer_of(break_by, system, [0], most), Told))
        self.assertEqual(raised(self, TooMany, break_by, system, [0], rounds - 1), {"most": rounds - 1})
        system = System(Net(2, 0, 1, []), [NodeTable([[]], [[]], [[]]), NodeTable([[]], [[]], None, [0])], chain_order(1))
        self.assertEqual(break_by(system, [0], 1), Told([((0,), (), ())]))
        # A source and a sink that need no rounds at all, as the sink shows each state at once, have one place a state.
        net = Net(2, 0, 1, [(0, 1, 3, "loose")])
        source = NodeTable([[], [(0, 0)]], [[], []], [[(1, 1)], []])
        sink = NodeTable([[], []], [[(0, 0, 1)], []], None, [0, 1])
        system = System(net, [source, sink], chain_order(2))
        self.assertEqual(len(break_by(system, [0], 2).rows), 2)
        self.assertEqual(raised(self, TooMany, break_by, system, [0], 1), {"most": 1})

    def test_all_nodes_but_one(self):
        for system in compiled_systems():
            nodes = [node for node in range(system.net.nodes) if node != system.net.sink]
            self.assertIsInstance(break_by(system, nodes), Told)
            self.assertIsInstance(break_by(system, [system.net.source]), Told)


if __name__ == "__main__":
    unittest.main()
