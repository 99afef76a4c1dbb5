"""[9.5]."""

import unittest

from spentframes.makers import chain_order
from spentframes.outcomes import Above, Back, Stuck, Told, breaks
from spentframes.runs import end_of, loop_fault, round_from
from tests.helpers import random_run, random_system, relay_system
from tests.test_runs import showing

RISE = ("rise", 1)


class Outcomes(unittest.TestCase):
    def test_attributes_with_tuples_in_the_place_of_lists(self):
        run, loop = [["rise", 1], ("deliver", 0, 0, 0)], [["deliver", 0, 0, 0]]
        self.assertEqual(Above(run).run, (RISE, ("deliver", 0, 0, 0)))
        self.assertEqual(Back(run).run, (RISE, ("deliver", 0, 0, 0)))
        stuck = Stuck(run, loop)
        self.assertEqual((stuck.run, stuck.loop), ((RISE, ("deliver", 0, 0, 0)), (("deliver", 0, 0, 0),)))
        rows = [[[0, 1], [[0, 0, 1]], [["rise", 1]]], ((0,), (), ())]
        self.assertEqual(Told(rows).rows, (((0, 1), ((0, 0, 1),), (RISE,)), ((0,), (), ())))
        run.append(None)
        loop[0][1] = 9
        self.assertEqual((stuck.run, stuck.loop), ((RISE, ("deliver", 0, 0, 0)), (("deliver", 0, 0, 0),)))
        self.assertEqual((run, loop, rows[0][0]), ([["rise", 1], ("deliver", 0, 0, 0), None], [["deliver", 9, 0, 0]], [0, 1]))

    def test_nothing_is_checked(self):
        for thing in (None, "ab", 5, {1: 2}):
            self.assertEqual([Above(thing).run, Back(thing).run, Stuck(thing, thing).loop, Told(thing).rows], [thing] * 4)

    def test_equal_by_class_and_attributes(self):
        made = [Above([RISE]), Above([]), Back([RISE]), Back([]), Stuck([RISE], []), Stuck([], [RISE]), Told([RISE]), Told([])]
        again = [Above((["rise", 1],)), Above(()), Back(([*RISE],)), Back(()), Stuck((RISE,), ()), Stuck((), (RISE,)),
                 Told(([*RISE],)), Told(())]
        made += [Stuck([RISE], [RISE]), Stuck([], [])]
        again += [Stuck((RISE,), (RISE,)), Stuck((), ())]
        for at, one in enumerate(made):
            self.assertEqual([one == other for other in again], [at == k for k in range(10)])
            self.assertEqual([one != other for other in again], [at != k for k in range(10)])
            self.assertFalse(one == (RISE,))
            self.assertFalse(one == None)  # noqa: E711


class Breaking(unittest.TestCase):
    def test_above(self):
        system = showing(chain_order(3), [0, 2, 1])
        run = (RISE, ("deliver", 0, 0, 0))
        self.assertIs(breaks(system, Above(run)), True)
        self.assertIs(breaks(system, Above([list(deed) for deed in run])), True)
        for other in (run[:1], (), run + (("rise", 2),), run[1:], run + (None,), None, "ab", 5, (RISE, RISE)):
            self.assertIs(breaks(system, Above(other)), False, other)
        self.assertIs(breaks(showing(chain_order(3), [1, 1, 1]), Above(())), True)
        # What is shown in between does not count, only what is shown at the end.
        self.assertIs(breaks(system, Above(run + (("rise", 2),))), False)

    def test_back(self):
        system = showing(chain_order(3), [0, 1, 2], spent=[(0, 0, 0), (0, 0, 1)])
        run = (("rise", 2), ("deliver", 0, 0, 1), ("deliver", 0, 0, 0))
        self.assertIs(breaks(system, Back(run)), True)
        self.assertIs(breaks(system, Back([list(deed) for deed in run])), True)
        for other in (run[:2], (), run + (("deliver", 0, 0, 0),), run + (None,), None, 5, run[:2] + (("rise", 2),),
                      run + (("deliver", 0, 0, 1),)):
            self.assertIs(breaks(system, Back(other)), False, other)

    def test_back_from_a_state_that_is_not_let(self):
        system = showing(chain_order(3), [2, 1, 0], spent=[(0, 0, 0)])
        self.assertIs(breaks(system, Back([("deliver", 0, 0, 0)])), True)
        self.assertIs(breaks(system, Above([("deliver", 0, 0, 0)])), True)
        self.assertIs(breaks(system, Above([])), True)
        self.assertIs(breaks(system, Back([])), False)

    def test_stuck(self):
        system = showing(chain_order(3), [0, 1, 0])
        run, loop = [("rise", 2), ("deliver", 0, 0, 1)], [("deliver", 0, 0, 1)]
        self.assertIs(breaks(system, Stuck(run, loop)), True)
        for one, other in ((run, []), (run, None), (None, loop), (run[:1], loop), ([], []), (run, run)):
            self.assertIs(breaks(system, Stuck(one, other)), False)

    def test_stuck_by_the_fault_of_the_loop(self):
        for seed in range(60):
            system = random_system(seed)
            run = random_run(system, 5, seed)
            standing = end_of(system, run)
            for _ in range(5):
                deeds, standing = round_from(system, standing)
                run += deeds
            loop = round_from(system, standing)[0]
            self.assertIs(breaks(system, Stuck(run, loop)), loop_fault(system, run, loop) is None)

    def test_a_right_system_is_not_broken(self):
        system = relay_system()
        for seed in range(20):
            run = random_run(system, 8, seed)
            loop = round_from(system, end_of(system, run))[0]
            for outcome in (Above(run), Back(run), Stuck(run, loop)):
                self.assertIs(breaks(system, outcome), False)

    def test_other_things(self):
        system = showing(chain_order(3), [1, 1, 1])
        for thing in (Told(()), Told([(0,), (), ()]), None, (), "above", 5, system):
            self.assertIs(breaks(system, thing), False)
