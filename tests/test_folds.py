"""[12.6] to [12.8]."""

import random
import unittest

from spentframes.compiled import net_system, pair_system
from spentframes.errors import BadPaths
from spentframes.flows import greatest_paths
from spentframes.folds import fold_run, rounds_due, unfold_run
from spentframes.nets import Net
from spentframes.runs import end_of, round_from, walk
from tests.helpers import raised, random_run
from tests.test_compiled import codes_and_nets

NET = Net(3, 0, 1, [(0, 2, 2, "loose"), (1, 2, 2, "loose"), (1, 0, 1, "loose")])
PATHS = (((0, 0, 0), (1, 1, 1)), ((2, 1, 0),))


def shown_along(system, run):
    """Return the states shown along a run, each change once."""
    shown = [system.shown(standing) for standing in walk(system, run)]
    return [state for at, state in enumerate(shown) if at == 0 or state != shown[at - 1]]


class Folds(unittest.TestCase):
    def test_by_hand(self):
        run = [("rise", 3), ["deliver", 0, 0, 0], ("deliver", 1, 1, 1), ("deliver", 1, 0, 1), ["deliver", 0, 1, 0],
               ("deliver", 2, 1, 0), ("deliver", 2, 0, 0), ("deliver", 0, 0, 1), ("deliver", 1, 1, 0), ["rise", 4]]
        folded = fold_run(NET, [[list(hop) for hop in path] for path in PATHS], run)
        self.assertEqual(folded, (("rise", 3), ("deliver", 0, 0, 0), ("deliver", 0, 1, 0), ("deliver", 0, 0, 1),
                                  ("deliver", 0, 1, 1), ("rise", 4)))
        self.assertEqual(unfold_run(NET, PATHS, [list(deed) for deed in folded]), (
            ("rise", 3), ("deliver", 0, 0, 0), ("deliver", 1, 1, 1), ("deliver", 1, 0, 1), ("deliver", 0, 1, 0),
            ("deliver", 2, 1, 0), ("deliver", 2, 0, 0), ("rise", 4)))
        self.assertEqual((fold_run(NET, (), run), unfold_run(NET, PATHS, ())), ((("rise", 3), ("rise", 4)), ()))

    def test_folded_runs(self):
        for seed, (code, net, paths) in enumerate(codes_and_nets()):
            system, pair = net_system(code, net, paths), pair_system(code)
            run = random_run(system, 60, seed)
            for _ in range(random.Random(seed).choice([0, 3])):
                run += round_from(system, end_of(system, run))[0]
            folded = fold_run(net, paths, run)
            ends, pair_ends = end_of(system, run), end_of(pair, folded)
            self.assertEqual(pair_ends[0], (ends[0][net.source], ends[0][net.sink]))
            self.assertEqual(pair_ends[2], ends[2])
            self.assertEqual(shown_along(pair, folded), shown_along(system, run))

    def test_unfolded_runs(self):
        for seed, (code, net, paths) in enumerate(codes_and_nets()):
            system, pair = net_system(code, net, paths), pair_system(code)
            run = random_run(pair, 30, seed)
            unfolded = unfold_run(net, paths, run)
            ends, pair_ends = end_of(system, unfolded), end_of(pair, run)
            self.assertEqual((ends[0][net.source], ends[0][net.sink]), pair_ends[0])
            self.assertEqual(fold_run(net, paths, unfolded), run)
            self.assertEqual(shown_along(system, unfolded), shown_along(pair, run))

    def test_paths_come_first(self):
        for call in (fold_run, unfold_run):
            self.assertEqual(raised(self, BadPaths, call, NET, [PATHS[0], PATHS[0]], None), {"word": "taken", "path": 1, "hop": 0})
            self.assertEqual(raised(self, BadPaths, call, NET, 5, None), {"word": "many", "path": -1, "hop": -1})

    def test_what_is_passed_stays_as_it_was(self):
        paths, run = [[[0, 0, 0], [1, 1, 1]]], [["rise", 1], ["deliver", 0, 0, 0]]
        fold_run(NET, paths, run)
        unfold_run(NET, paths, run)
        self.assertEqual((paths, run), ([[[0, 0, 0], [1, 1, 1]]], [["rise", 1], ["deliver", 0, 0, 0]]))


class Calm(unittest.TestCase):
    def test_rounds_due(self):
        paths = greatest_paths(NET, 99)
        self.assertEqual([len(path) for path in paths], [1, 2, 2])
        self.assertEqual([rounds_due(paths, m) for m in range(4)], [0, 2, 8, 12])
        self.assertEqual([rounds_due((), 0), rounds_due([list(path) for path in paths], 3)], [0, 12])

    def test_settled_behind_the_due_rounds(self):
        for seed, (code, net, paths) in enumerate(codes_and_nets()):
            system = net_system(code, net, paths)
            standing = end_of(system, random_run(system, 25, seed))
            for _ in range(rounds_due(paths, code.m)):
                standing = round_from(system, standing)[1]
            self.assertTrue(system.is_settled(standing))
            self.assertEqual(round_from(system, standing)[1], standing)


if __name__ == "__main__":
    unittest.main()
