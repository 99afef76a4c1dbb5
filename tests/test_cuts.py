"""[11.1] to [11.3]."""

import itertools
import unittest

from spentframes.cuts import (
    check_side, count_across, count_unsent, each_side, frames_across, is_thick, least_cut)
from spentframes.errors import BadSide
from spentframes.nets import Net
from spentframes.runs import end_of
from tests.helpers import raised, random_net, random_run, random_system

SIDED = (check_side, count_across, frames_across)


def nets():
    made = [Net(2, 0, 1, []), Net(6, 5, 0, []), Net(2, 1, 0, [(0, 1, 6, "ordered")] * 12), Net(2, 0, 1, [(0, 1, 6, "loose")] * 12)]
    return made + [random_net(seed, loose=seed % 2 == 0) for seed in range(200)]


def sides_of(net):
    """Return all sides, in any order."""
    rest = [node for node in range(net.nodes) if node not in (net.source, net.sink)]
    return [tuple(sorted((net.source,) + some)) for k in range(len(rest) + 1) for some in itertools.combinations(rest, k)]


def across_by_words(net, side):
    found = []
    for link, (one, other, frames, _) in enumerate(net.links):
        for way, (start, end) in enumerate(((one, other), (other, one))):
            if start in side and end not in side:
                found += [(link, way, frame) for frame in range(frames)]
    return tuple(sorted(found))


def size_by_words(net, side):
    across = across_by_words(net, side)
    if any(net.links[link][3] == "ordered" and net.links[link][2] >= 3 for link, _, _ in across):
        return None
    return len(across)


class Links(unittest.TestCase):
    def test_thick_links_are_ordered_and_have_three_frames(self):
        links = [(0, 1, frames, kind) for kind in ("loose", "ordered") for frames in range(1, 7)]
        told = [is_thick(Net(2, 0, 1, links), at) for at in range(12)]
        self.assertEqual(told, [False] * 8 + [True] * 4)


class Sides(unittest.TestCase):
    def setUp(self):
        self.net = Net(4, 2, 0, [(2, 1, 2, "loose"), (1, 0, 3, "loose"), (0, 2, 1, "ordered"), (3, 2, 4, "loose")])

    def test_ascending_tuples(self):
        for side in ([2], (2,), [3, 2], [3, 1, 2], (1, 2, 3)):
            self.assertEqual(check_side(self.net, side), tuple(sorted(side)))
            self.assertIs(type(check_side(self.net, side)), tuple)

    def test_all_sides_in_their_order(self):
        self.assertEqual(list(each_side(self.net)), [(2,), (1, 2), (2, 3), (1, 2, 3)])
        self.assertEqual(list(each_side(Net(2, 1, 0, ()))), [(1,)])
        for net in nets():
            sides = sides_of(net)
            self.assertEqual(list(each_side(net)), sorted(sides, key=lambda side: (len(side), side)))
            self.assertTrue(all(check_side(net, side) == side for side in sides))

    def refused(self, side, what):
        for call in SIDED:
            self.assertEqual(raised(self, BadSide, call, self.net, side), {"what": what}, side)
        self.assertEqual(raised(self, BadSide, count_unsent, self.net, side, ()), {"what": what})

    def test_wrong_sides(self):
        for side in (None, "2", 2, {}, {2: 2}, {2}, [2, 2], [2, 4], [-1, 2], [2, True], [2, None], ["2"], [[2]], [2.0], [0, 0]):
            self.refused(side, "nodes")
        for side in ([], (), [1], [0], [1, 3, 0]):
            self.refused(side, "source")
        for side in ([2, 0], (0, 1, 2, 3)):
            self.refused(side, "sink")

    def test_a_side_stays_as_it_was(self):
        side = [3, 2]
        for call in SIDED:
            call(self.net, side)
        self.assertEqual(side, [3, 2])


class Across(unittest.TestCase):
    def test_against_the_words(self):
        for net in nets():
            for side in sides_of(net):
                self.assertEqual(frames_across(net, side[::-1]), across_by_words(net, side))
                self.assertEqual(count_across(net, list(side)), size_by_words(net, side))

    def test_by_hand(self):
        net = Net(3, 0, 1, [(0, 1, 2, "loose"), (2, 0, 1, "ordered"), (1, 2, 3, "ordered")])
        self.assertEqual(frames_across(net, [0]), ((0, 0, 0), (0, 0, 1), (1, 1, 0)))
        self.assertEqual(count_across(net, [0]), 3)
        self.assertEqual(frames_across(net, [0, 2]), ((0, 0, 0), (0, 0, 1), (2, 1, 0), (2, 1, 1), (2, 1, 2)))
        self.assertIsNone(count_across(net, [0, 2]))
        self.assertEqual(frames_across(Net(2, 0, 1, ()), (0,)), ())
        self.assertEqual(count_across(Net(2, 0, 1, ()), (0,)), 0)
        self.assertEqual(count_across(Net(2, 0, 1, [(1, 0, 6, "loose")] * 12), (0,)), 72)

    def test_unsent_frames(self):
        net = Net(3, 0, 1, [(0, 1, 2, "loose"), (2, 0, 4, "loose"), (1, 2, 3, "loose")])
        sent = (((1,), (0,)), ((0, 1, 2), (3,)), ((), (0, 1)))
        self.assertEqual(count_unsent(net, [0], sent), 1 + 3)
        self.assertEqual(count_unsent(net, [2, 0], sent), 1 + 1)
        for at in range(40):
            system = random_system(at)
            sent = end_of(system, random_run(system, 10, at))[1]
            for side in sides_of(system.net):
                unsent = [(link, way, f) for link, way, f in across_by_words(system.net, side) if f not in sent[link][way]]
                self.assertEqual(count_unsent(system.net, side, sent), len(unsent))


class LeastCuts(unittest.TestCase):
    def test_against_all_sides(self):
        for net in nets():
            sizes = {side: size_by_words(net, side) for side in sides_of(net)}
            told = [size for size in sizes.values() if size is not None]
            if not told:
                self.assertEqual(least_cut(net), (None, None))
                continue
            least = [set(side) for side, size in sizes.items() if size == min(told)]
            within_all = [side for side in least if all(side <= other for other in least)]
            self.assertEqual(least_cut(net), (min(told), tuple(sorted(within_all[0]))))

    def test_by_hand(self):
        self.assertEqual(least_cut(Net(2, 0, 1, ())), (0, (0,)))
        self.assertEqual(least_cut(Net(6, 3, 1, [(3, 4, 6, "loose"), (4, 5, 1, "loose")])), (0, (3, 4, 5)))
        self.assertEqual(least_cut(Net(3, 0, 2, [(0, 1, 2, "loose"), (2, 1, 2, "loose")])), (2, (0,)))
        self.assertEqual(least_cut(Net(3, 0, 2, [(0, 1, 3, "ordered"), (2, 1, 2, "ordered")])), (2, (0, 1)))
        self.assertEqual(least_cut(Net(3, 0, 2, [(0, 1, 3, "ordered"), (2, 1, 4, "ordered")])), (None, None))
        self.assertEqual(least_cut(Net(2, 0, 1, [(0, 1, 6, "loose")] * 12)), (72, (0,)))
        self.assertEqual(least_cut(Net(2, 0, 1, [(0, 1, 6, "loose")] * 11 + [(1, 0, 3, "ordered")])), (None, None))
        self.assertEqual(least_cut(Net(2, 0, 1, [(1, 0, 2, "ordered")])), (2, (0,)))

    def test_a_node_that_nothing_joins_is_not_in_the_least_side(self):
        self.assertEqual(least_cut(Net(3, 0, 1, [(0, 1, 1, "loose")])), (1, (0,)))
        # Thick links to a node bring it to the source's side.
        self.assertEqual(least_cut(Net(3, 0, 1, [(0, 1, 1, "loose"), (2, 0, 3, "ordered")])), (1, (0, 2)))
