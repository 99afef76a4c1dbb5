"""[11.8]."""

import unittest

from spentframes.cuts import least_cut
from spentframes.errors import BadCount, BadPaths, NoLink
from spentframes.flows import greatest_paths, more_paths, paths_fault
from spentframes.netedits import healed_paths, paths_without
from spentframes.nets import Net
from tests.helpers import raised, random_net, some_paths

NO_LINKS = (True, False, None, "0", 1.0, (0,), -1)
NO_COUNTS = (-1, 100, True, None, "3")


def cases():
    """Return couples of a net and right paths of it."""
    nets = [random_net(seed, loose=seed % 2 == 0) for seed in range(120)] + [Net(2, 0, 1, [(0, 1, 6, "loose")] * 12)]
    return [(net, paths) for at, net in enumerate(nets) for paths in some_paths(net, at)]


class Edits(unittest.TestCase):
    def setUp(self):
        self.net = Net(3, 0, 2, [(0, 1, 2, "loose"), (1, 0, 1, "loose"), (1, 2, 3, "loose"), (0, 2, 1, "loose")])
        self.paths = [[(0, 0, 1), (2, 0, 0)], [(1, 1, 0), (2, 0, 1)], [(3, 0, 0)]]

    def test_by_hand(self):
        self.assertEqual(paths_without(self.net, self.paths, 0), (((0, 1, 0), (1, 0, 1)), ((2, 0, 0),)))
        self.assertEqual(paths_without(self.net, self.paths, 1), (((0, 0, 1), (1, 0, 0)), ((2, 0, 0),)))
        self.assertEqual(paths_without(self.net, self.paths, 2), (((2, 0, 0),),))
        self.assertEqual(paths_without(self.net, self.paths, 3), (((0, 0, 1), (2, 0, 0)), ((1, 1, 0), (2, 0, 1))))
        self.assertEqual(paths_without(self.net, [], 3), ())

    def test_paths_that_are_left_are_right(self):
        for net, paths in cases():
            for link in range(len(net)):
                less = net.without_link(link)
                left = paths_without(net, [list(path) for path in paths], link)
                self.assertIsNone(paths_fault(less, left))
                back = [tuple((on + (on >= link), way, frame) for on, way, frame in path) for path in left]
                self.assertEqual(back, [path for path in paths if all(hop[0] != link for hop in path)])
                self.assertEqual({type(thing) for thing in (left,) + left}, {tuple})

    def test_one_more_link_leaves_paths_right(self):
        for net, paths in cases():
            if len(net) < 12:
                for kind in ("loose", "ordered"):
                    more = net.with_link((net.sink, net.source, 3, kind))
                    self.assertIsNone(paths_fault(more, paths))
                    self.assertEqual(paths_without(more, paths, len(net)), paths)

    def test_healed_paths(self):
        for net, paths in cases():
            for link in range(0, len(net), 3):
                less = net.without_link(link)
                left = paths_without(net, paths, link)
                for most in (0, len(left), len(paths), 99):
                    healed = healed_paths(net, paths, link, most)
                    self.assertEqual(healed, more_paths(less, left, most))
                    self.assertIsNone(paths_fault(less, healed))
                    size = least_cut(less)[0]
                    self.assertEqual(len(healed), max(len(left), most if size is None else min(most, size)))
                    if len(left) >= most:
                        self.assertEqual(healed, left)

    def test_healed_by_hand(self):
        self.assertEqual(healed_paths(self.net, self.paths, 3, 2), (((0, 0, 1), (2, 0, 0)), ((1, 1, 0), (2, 0, 1))))
        self.assertEqual(len(healed_paths(self.net, self.paths, 3, 3)), 3)
        self.assertEqual(len(healed_paths(self.net, self.paths, 2, 99)), 1)
        self.assertEqual(healed_paths(Net(2, 0, 1, [(0, 1, 1, "loose")]), [[(0, 0, 0)]], 0, 5), ())

    def test_wrong_links(self):
        for link in NO_LINKS + (4,):
            self.assertEqual(raised(self, NoLink, paths_without, self.net, self.paths, link), {"link": link})
            for most in NO_COUNTS + (2,):
                self.assertEqual(raised(self, NoLink, healed_paths, self.net, self.paths, link, most), {"link": link})

    def test_errors_in_their_order(self):
        told = {"word": "end", "path": 1, "hop": 0}
        paths = [self.paths[0], self.paths[1][:1]]
        for link in (0, 9, None):
            self.assertEqual(raised(self, BadPaths, paths_without, self.net, paths, link), told)
            self.assertEqual(raised(self, BadPaths, healed_paths, self.net, paths, link, -1), told)
        self.assertEqual(raised(self, BadPaths, paths_without, self.net, None, 0), {"word": "many", "path": -1, "hop": -1})
        for most in NO_COUNTS:
            self.assertEqual(raised(self, BadCount, healed_paths, self.net, self.paths, 0, most), {"most": 99})

    def test_what_is_passed_stays_as_it_was(self):
        paths = [[[0, 0, 1], [2, 0, 0]]]
        paths_without(self.net, paths, 1)
        healed_paths(self.net, paths, 1, 3)
        self.assertEqual(paths, [[[0, 0, 1], [2, 0, 0]]])
        self.assertEqual(len(self.net), 4)
        self.assertEqual(len(greatest_paths(self.net, 99)), 4)
