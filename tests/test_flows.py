"""[11.4] to [11.7], and [11.1]."""

import itertools
import random
import unittest

from spentframes.cuts import count_across, each_side, is_thick, least_cut
from spentframes.errors import BadCount, BadPaths, BadSide
from spentframes.flows import (
    free_paths, greatest_paths, is_tight, more_paths, path_nodes, paths_fault, side_of_paths)
from spentframes.nets import Net
from tests.helpers import raised, random_net, some_paths

NO_COUNTS = (-1, 100, True, False, None, "3", 3.0)
NO_SEQUENCES = (None, "ab", {}, {0: 1}, 5)


def nets():
    made = [Net(2, 0, 1, []), Net(2, 1, 0, [(0, 1, 6, "loose")] * 12), Net(2, 0, 1, [(1, 0, 6, "ordered")] * 12)]
    return made + [random_net(seed, loose=seed % 2 == 0) for seed in range(200)]


def fault_by_words(net, paths):
    """Return the first fault of [11.5], from couples of sets."""
    if not isinstance(paths, (list, tuple)) or len(paths) > 99:
        return "many", -1, -1
    for p, path in enumerate(paths):
        if not isinstance(path, (list, tuple)) or not path:
            return "path", p, -1
        nodes = [net.source]
        for h, hop in enumerate(path):
            let = {(link, way, frame) for link, (_, _, frames, kind) in enumerate(net.links) for way in (0, 1)
                   for frame in range(1 if kind == "ordered" and frames > 2 else frames)}
            if not isinstance(hop, (list, tuple)) or any(type(item) is not int for item in hop) or tuple(hop) not in let:
                return "hop", p, h
            link, way, frame = hop
            start, end = net.links[link][way], net.links[link][1 - way]
            earlier = [other[1] for path in paths[:p] for other in path if (other[0], other[2]) == (link, frame)]
            if start != nodes[-1]:
                return "start", p, h
            if end in nodes:
                return "node", p, h
            if earlier and (not is_thick(net, link) or set(earlier) != {way}):
                return "taken", p, h
            nodes.append(end)
        if nodes[-1] != net.sink:
            return "end", p, len(path) - 1
    return None


def most_by_search(net):
    """Return the greatest number of right paths by a search, for nets without thick links and with few frames."""
    hops = [(link, way, frame) for link, one in enumerate(net.links) for way in (0, 1) for frame in range(one[2])]
    best = [0]

    def go_on(node, nodes, used, many):
        if node == net.sink:
            best[0] = max(best[0], many + 1)
            go_on(net.source, (net.source,), used, many + 1)
            return
        for link, way, frame in hops:
            if net.links[link][way] == node and (link, frame) not in used and net.links[link][1 - way] not in nodes:
                end = net.links[link][1 - way]
                go_on(end, nodes + (end,), used | {(link, frame)}, many)

    go_on(net.source, (net.source,), frozenset(), 0)
    return best[0]


class Faults(unittest.TestCase):
    def setUp(self):
        # 0 is the source, 3 the sink; link 3 is thick, link 4 thin.
        self.net = Net(4, 0, 3, [(0, 1, 2, "loose"), (1, 3, 2, "loose"), (2, 1, 1, "loose"), (0, 2, 3, "ordered"),
                                 (2, 3, 2, "ordered"), (0, 3, 1, "loose")])

    def fault(self, *paths):
        self.assertEqual(fault_by_words(self.net, paths), paths_fault(self.net, paths))
        self.assertEqual(paths_fault(self.net, list(paths)), paths_fault(self.net, paths))
        return paths_fault(self.net, paths)

    def test_right_paths(self):
        self.assertIsNone(self.fault())
        self.assertIsNone(self.fault([(0, 0, 1), [1, 0, 0]], [(3, 0, 0), (4, 0, 1)], ((5, 0, 0),)))
        self.assertIsNone(self.fault([(3, 0, 0), (4, 0, 0)], [(3, 0, 0), (4, 0, 1)], [(3, 0, 0), (2, 0, 0), (1, 0, 1)]))
        self.assertIsNone(self.fault([(0, 0, 0), (2, 1, 0), (4, 0, 0)], [(0, 0, 1), (1, 0, 0)]))
        self.assertIsNone(paths_fault(Net(2, 0, 1, [(0, 1, 3, "ordered")]), [[(0, 0, 0)]] * 99))

    def test_many(self):
        for thing in NO_SEQUENCES + ([[(5, 0, 0)]] * 100, [None] * 100):
            self.assertEqual(paths_fault(self.net, thing), ("many", -1, -1))

    def test_path(self):
        for path in NO_SEQUENCES + ((), []):
            self.assertEqual(self.fault(path), ("path", 0, -1))
            self.assertEqual(self.fault([(5, 0, 0)], path, None), ("path", 1, -1))

    def test_hop(self):
        wrong = NO_SEQUENCES + ((), (0, 0), (0, 0, 0, 0), (6, 0, 0), (-1, 0, 0), (0, 2, 0), (0, -1, 0), (0, 0, 2), (0, 0, -1), (3, 0, 1),
                                (3, 0, 2), (4, 0, 2), (True, 0, 0), (0, False, 0), (0, 0, False), ("0", 0, 0), (0, None, 0))
        for hop in wrong:
            self.assertEqual(self.fault([hop, None]), ("hop", 0, 0))
            self.assertEqual(self.fault([(5, 0, 0)], [(0, 0, 0), hop]), ("hop", 1, 1))

    def test_start(self):
        self.assertEqual(self.fault([(1, 0, 0)]), ("start", 0, 0))
        self.assertEqual(self.fault([(0, 1, 0)]), ("start", 0, 0))
        self.assertEqual(self.fault([(0, 0, 0), (4, 0, 0)]), ("start", 0, 1))

    def test_node(self):
        self.assertEqual(self.fault([(0, 0, 0), (0, 1, 0)]), ("node", 0, 1))
        self.assertEqual(self.fault([(3, 0, 0), (2, 0, 0), (0, 1, 0)]), ("node", 0, 2))
        self.assertEqual(self.fault([(5, 0, 0), (5, 1, 0)]), ("node", 0, 1))

    def test_taken(self):
        self.assertEqual(self.fault([(5, 0, 0)], [(5, 0, 0)]), ("taken", 1, 0))
        self.assertEqual(self.fault([(0, 0, 0), (1, 0, 0)], [(0, 0, 1), (1, 0, 0)]), ("taken", 1, 1))
        # A frame that goes the other way on an earlier path is taken, too.
        there, back = [(0, 0, 0), (2, 1, 0), (4, 0, 0)], [(3, 0, 0), (2, 0, 0), (1, 0, 1)]
        self.assertEqual(self.fault(there, back), ("taken", 1, 1))

    def test_thick_links_all_go_one_way(self):
        net = Net(4, 0, 3, [(0, 1, 2, "loose"), (0, 2, 2, "loose"), (1, 2, 5, "ordered"), (1, 3, 2, "loose"), (2, 3, 2, "loose")])
        there, back = [(0, 0, 0), (2, 0, 0), (4, 0, 0)], [(1, 0, 0), (2, 1, 0), (3, 0, 0)]
        for paths, fault in (([there, back], ("taken", 1, 1)), ([there], None), ([back], None),
                             ([there, [(0, 0, 1), (2, 0, 0), (4, 0, 1)]], None), ([back, there], ("taken", 1, 1))):
            self.assertEqual(paths_fault(net, paths), fault)
            self.assertEqual(fault_by_words(net, paths), fault)

    def test_end(self):
        self.assertEqual(self.fault([(0, 0, 0)]), ("end", 0, 0))
        self.assertEqual(self.fault([(5, 0, 0)], [(0, 0, 0), (2, 1, 0)]), ("end", 1, 1))
        self.assertEqual(self.fault([(5, 0, 0), (4, 1, 0)]), ("end", 0, 1))

    def test_words_in_their_order(self):
        self.assertEqual(self.fault([(5, 0, 0)], [(5, 1, 0)]), ("start", 1, 0))
        self.assertEqual(self.fault([(0, 0, 0), (1, 0, 0)], [(0, 0, 1), (0, 1, 0)]), ("node", 1, 1))
        self.assertEqual(self.fault([(0, 0, 0)], None), ("end", 0, 0))
        self.assertEqual(self.fault([(5, 0, 0)], [(5, 0, 0), None]), ("taken", 1, 0))
        self.assertEqual(self.fault([(9, 9, 9)], []), ("hop", 0, 0))

    def test_bent_paths(self):
        dice = random.Random(2)
        words = set()
        for net in nets():
            paths = [[list(hop) for hop in path] for path in greatest_paths(net, 6)]
            for _ in range(8):
                bent = [[list(hop) for hop in path] for path in paths]
                if bent:
                    path = dice.choice(bent)
                    hop = dice.choice(path)
                    hop[dice.randrange(3)] = dice.choice([0, 1, 2, 3])
                    if dice.random() < 0.3:
                        path.insert(dice.randrange(len(path)), list(dice.choice(dice.choice(bent))))
                    if dice.random() < 0.3:
                        path.pop()
                    if dice.random() < 0.3:
                        bent.append(dice.choice(bent))
                fault = fault_by_words(net, bent)
                words.add(fault and fault[0])
                self.assertEqual(paths_fault(net, bent), fault)
        self.assertEqual(words, {None, "path", "hop", "start", "node", "taken", "end"})

    def test_nodes_of_a_path(self):
        self.assertEqual(path_nodes(self.net, [(3, 0, 0), [2, 0, 0], (1, 0, 1)]), (0, 2, 1, 3))
        self.assertEqual(path_nodes(self.net, ((5, 0, 0),)), (0, 3))
        for net in nets():
            for path in greatest_paths(net, 9):
                nodes = path_nodes(net, path)
                self.assertEqual((nodes[0], nodes[-1], len(set(nodes))), (net.source, net.sink, len(path) + 1))
                self.assertEqual([set(net.links[hop[0]][:2]) for hop in path], [set(two) for two in zip(nodes, nodes[1:])])


class GreatestPaths(unittest.TestCase):
    def check(self, net, most, paths):
        self.assertIsNone(fault_by_words(net, paths))
        size = least_cut(net)[0]
        self.assertEqual(len(paths), most if size is None else min(most, size))
        kinds = {type(thing) for thing in (paths,) + paths + tuple(hop for path in paths for hop in path)}
        self.assertEqual(kinds, {tuple})
        self.assertTrue(all(len(path) <= net.nodes - 1 for path in paths))

    def test_as_many_as_the_least_cut(self):
        for net in nets():
            for most in (0, 1, 2, 5, 99):
                self.check(net, most, greatest_paths(net, most))

    def test_against_a_search(self):
        links = [(0, 1), (0, 2), (1, 2), (1, 3), (2, 3), (2, 1)]
        for k in range(7):
            for some in itertools.combinations(links, k):
                for frames in (1, 2) if k < 5 else (1,):
                    net = Net(4, 0, 3, [couple + (frames, "loose") for couple in some])
                    self.assertEqual(len(greatest_paths(net, 99)), most_by_search(net))

    def test_a_path_that_must_go_another_way_for_a_second_one(self):
        net = Net(6, 0, 5, [(0, 1, 1, "loose"), (1, 4, 1, "loose"), (4, 5, 1, "loose"), (0, 3, 1, "loose"), (3, 4, 1, "loose"),
                            (1, 2, 1, "loose"), (2, 5, 1, "loose")])
        self.check(net, 2, greatest_paths(net, 2))
        self.assertEqual(len(greatest_paths(net, 99)), 2)

    def test_thick_links(self):
        net = Net(3, 0, 2, [(0, 1, 3, "ordered"), (2, 1, 6, "ordered")])
        self.assertEqual(greatest_paths(net, 99), (((0, 0, 0), (1, 1, 0)),) * 99)
        net = Net(3, 0, 2, [(0, 1, 3, "ordered"), (2, 1, 2, "ordered"), (1, 2, 5, "loose")])
        self.assertEqual(len(greatest_paths(net, 99)), 7)
        self.assertIsNone(paths_fault(net, greatest_paths(net, 99)))

    def test_no_links_and_twelve(self):
        self.assertEqual(greatest_paths(Net(2, 0, 1, ()), 99), ())
        self.assertEqual(len(greatest_paths(Net(2, 0, 1, [(1, 0, 6, "loose")] * 12), 99)), 72)
        self.assertEqual(greatest_paths(Net(2, 0, 1, [(1, 0, 6, "loose")] * 12), 0), ())
        self.assertEqual(greatest_paths(Net(4, 0, 1, [(0, 2, 6, "loose"), (3, 1, 6, "loose")]), 5), ())

    def test_wrong_counts(self):
        for most in NO_COUNTS:
            self.assertEqual(raised(self, BadCount, greatest_paths, Net(2, 0, 1, ()), most), {"most": 99})

    def test_more_paths(self):
        for at, net in enumerate(nets()):
            size = least_cut(net)[0]
            for paths in some_paths(net, at):
                for most in (0, len(paths), min(len(paths) + 1, 99), 99):
                    told = more_paths(net, [[list(hop) for hop in path] for path in paths], most)
                    if len(paths) >= most or len(paths) == size:
                        self.assertEqual(told, paths)
                    else:
                        self.check(net, most, told)

    def test_wrong_paths_come_ahead_of_wrong_counts(self):
        net = Net(2, 0, 1, [(0, 1, 2, "loose")])
        for paths, word, path, hop in ((None, "many", -1, -1), ([[(0, 0, 0)], [(0, 0, 0)]], "taken", 1, 0), ([[]], "path", 0, -1)):
            told = {"word": word, "path": path, "hop": hop}
            for most in NO_COUNTS + (1,):
                self.assertEqual(raised(self, BadPaths, more_paths, net, paths, most), told)
            self.assertEqual(raised(self, BadPaths, side_of_paths, net, paths), told)
            self.assertEqual(raised(self, BadPaths, free_paths, net, paths, (((), ()),)), told)
        for most in NO_COUNTS:
            self.assertEqual(raised(self, BadCount, more_paths, net, [[(0, 0, 0)]], most), {"most": 99})

    def test_what_is_passed_stays_as_it_was(self):
        net = Net(2, 0, 1, [(0, 1, 2, "loose")])
        paths = [[[0, 0, 1]]]
        for most in (1, 2):
            more_paths(net, paths, most)
        side_of_paths(net, paths)
        is_tight(net, [0], paths)
        free_paths(net, paths, (((), ()),))
        self.assertEqual(paths, [[[0, 0, 1]]])


class Sides(unittest.TestCase):
    def test_the_side_shows_that_there_are_no_more(self):
        for at, net in enumerate(nets()):
            size, side = least_cut(net)
            for paths in some_paths(net, at):
                told = side_of_paths(net, paths)
                self.assertEqual(told, side if len(paths) == size else None)
                for other in each_side(net):
                    tight = len(paths) == count_across(net, other)
                    self.assertIs(is_tight(net, list(other)[::-1], paths), tight)
                    if tight:
                        self.assertTrue(all(self.crossings(net, other, path) == [True] for path in paths))

    def crossings(self, net, side, path):
        """Return for each hop between the side and the others whether it leaves the side."""
        nodes = path_nodes(net, path)
        return [one in side for one, other in zip(nodes, nodes[1:]) if (one in side) != (other in side)]

    def test_thick_cuts_have_no_side(self):
        net = Net(2, 0, 1, [(0, 1, 3, "ordered")])
        self.assertIsNone(side_of_paths(net, [[(0, 0, 0)]] * 99))
        self.assertIs(is_tight(net, [0], [[(0, 0, 0)]] * 99), False)

    def test_a_source_that_cannot_reach_the_sink(self):
        net = Net(3, 0, 1, [(0, 2, 1, "loose")])
        self.assertEqual(side_of_paths(net, ()), (0, 2))
        self.assertIs(is_tight(net, (0, 2), ()), True)
        self.assertIs(is_tight(net, (0,), ()), False)

    def test_tight_asks_for_right_paths_and_a_right_side(self):
        net = Net(2, 0, 1, [(0, 1, 2, "loose")])
        self.assertIs(is_tight(net, [0], [[(0, 0, 0)], [(0, 0, 1)]]), True)
        for paths in NO_SEQUENCES + ([[(0, 0, 0)], [(0, 0, 0)]], [[(0, 0, 0)]], [], [[(0, 0, 0)], []], "ab"):
            self.assertIs(is_tight(net, [0], paths), False)
        for side, what in ((None, "nodes"), ([True], "nodes"), ([], "source"), ([0, 1], "sink")):
            for paths in ([[(0, 0, 0)]], None):
                self.assertEqual(raised(self, BadSide, is_tight, net, side, paths), {"what": what})


class FreePaths(unittest.TestCase):
    def test_by_hand(self):
        net = Net(3, 0, 2, [(0, 1, 3, "loose"), (2, 1, 3, "loose")])
        paths = [[(0, 0, k), (1, 1, k)] for k in range(3)]
        nothing = (((), ()), ((), ()))
        self.assertEqual(free_paths(net, paths, nothing), (0, 1, 2))
        self.assertEqual(free_paths(net, paths, (((0,), ()), ((), ()))), (1, 2))
        self.assertEqual(free_paths(net, paths, (((), (1,)), ((2,), ()))), (0,))
        self.assertEqual(free_paths(net, paths, (((0,), (0,)), ((0,), (0,)))), (1, 2))
        self.assertEqual(free_paths(net, paths, (((0, 1), ()), ((), (2,)))), ())
        self.assertEqual(free_paths(net, [], nothing), ())

    def test_against_the_definition(self):
        dice = random.Random(7)
        for seed in range(100):
            net = random_net(seed)
            paths = greatest_paths(net, 99)
            sent = tuple(tuple(tuple(sorted(dice.sample(range(link[2]), dice.randint(0, (link[2] + 1) // 2))))
                               for _ in (0, 1)) for link in net.links)
            free = [at for at, path in enumerate(paths)
                    if not {(link, frame) for link, _, frame in path}
                    & {(link, frame) for link, ways in enumerate(sent) for frames in ways for frame in frames}]
            self.assertEqual(free_paths(net, [list(path) for path in paths], sent), tuple(free))
