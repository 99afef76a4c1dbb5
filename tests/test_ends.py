"""[6.6] to [6.10], and [6.1]."""

import random
import unittest

from spentframes.codes import Code, deep_code
from spentframes.coursing import each_row, read_place, route_between, shown_state
from spentframes.ends import (
    ack_frame, aim_frame, aim_of, hear_ack, hear_frame, hear_rise, sent_frame, start_sender)
from spentframes.makers import chain_order, facts_order, flat_order
from spentframes.needs import need_of
from spentframes.orders import Order
from spentframes.quick import quick_code
from spentframes.rows import all_rows
from tests.helpers import form_orders, right_codes, rows_told, wide_order


def branched():
    """Return a code in which the pieces for 1 and 2 begin alike: 0 1 tells 1, 0 2 tells 2, 1 tells 3."""
    order = Order(6, [(0, 1), (0, 2), (0, 3), (1, 4), (2, 4), (3, 5)])
    entries = [(0, 4, [(0, 1), (0, 2), (1,)]), (1, 2, [(1,)]), (2, 2, [(0,)]), (3, 3, [(0,)])]
    return Code(order, 4, entries)


def aim_by_definition(code, rows, row, risen):
    """Return (cover, frame) by [6.7], with the rows of all courses, or (None, None)."""
    place = read_place(code, row)
    told = row[:len(row) - len(place.begun)]
    for cover in code.order.covers(place.state):
        longer = [rows[course] for course in rows if course[-1] == cover and rows[course[:-1]] == told and course != (0,)]
        if code.order.at_most(cover, risen) and longer and longer[0][:len(row)] == row:
            return cover, longer[0][len(row)]
    return None, None


class Aims(unittest.TestCase):
    def test_against_the_definition_for_every_row(self):
        for code in [code for code in right_codes() if code.m <= 4]:
            rows = rows_told(code)
            for row in all_rows(code.m):
                for risen in range(code.order.n):
                    told = (aim_of(code, row, risen), aim_frame(code, row, risen))
                    self.assertEqual(told, aim_by_definition(code, rows, row, risen), (row, risen))

    def test_by_hand(self):
        code = branched()
        cases = [((), 0, None, None), ((), 1, 1, 0), ((), 2, 2, 0), ((), 3, 3, 1), ((), 4, 1, 0), ((), 5, 3, 1),
                 ((0,), 2, 2, 2), ((0,), 4, 1, 1), ((0,), 1, 1, 1), ((0,), 3, None, None), ((0, 1), 4, 4, 3),
                 ((0, 1), 1, None, None), ((0, 2), 4, 4, 1), ((1,), 5, 5, 0), ((1, 0), 5, None, None),
                 ((3,), 5, None, None), ((0, 3), 4, None, None)]
        for row, risen, cover, frame in cases:
            self.assertEqual(aim_of(code, row, risen), cover, (row, risen))
            self.assertEqual(aim_frame(code, row, risen), frame, (row, risen))
            self.assertEqual(aim_of(code, list(row), risen), cover)

    def test_there_is_an_aim_where_frames_are_begun_or_the_told_state_lies_below(self):
        for code in [code for code in right_codes() if code.m <= 4]:
            for row in each_row(code):
                place = read_place(code, row)
                for risen in (place.state,) + code.order.above(place.state):
                    if place.begun == ():
                        self.assertEqual(aim_of(code, row, risen) is None, risen == place.state)
                    aims = [aim_of(code, row, cover) for cover in code.order.covers(place.state)]
                    self.assertTrue(any(aim is not None for aim in aims) or not aims)


class Senders(unittest.TestCase):
    def test_the_start(self):
        self.assertEqual(start_sender(), ((), True, 0))
        self.assertIsNone(sent_frame(start_sender()))

    def test_what_is_sent(self):
        self.assertEqual(sent_frame(((3, 1), False, 2)), 1)
        self.assertIsNone(sent_frame(((3, 1), True, 2)))
        self.assertEqual(sent_frame(((0,), False, 1)), 0)

    def test_steps_by_hand(self):
        code = branched()
        sender = hear_rise(code, start_sender(), 2)
        self.assertEqual(sender, ((0,), False, 2))
        for frame in (1, 2, 3):
            self.assertEqual(hear_ack(code, sender, frame), sender)
        # A rise that comes while a frame is not acknowledged only changes what has risen.
        sender = hear_rise(code, sender, 4)
        self.assertEqual(sender, ((0,), False, 4))
        # The piece that is begun is ended for the least cover, which is another one now.
        sender = hear_ack(code, sender, 0)
        self.assertEqual(sender, ((0, 1), False, 4))
        self.assertEqual(hear_ack(code, sender, 0), sender)
        sender = hear_ack(code, sender, 1)
        self.assertEqual(sender, ((0, 1, 3), False, 4))
        sender = hear_ack(code, sender, 3)
        self.assertEqual(sender, ((0, 1, 3), True, 4))
        for frame in range(4):
            self.assertEqual(hear_ack(code, sender, frame), sender)
        self.assertEqual(hear_rise(code, sender, 4), sender)

    def test_a_rise_to_the_same_state_and_to_state_0(self):
        code = branched()
        self.assertEqual(hear_rise(code, start_sender(), 0), start_sender())
        self.assertEqual(hear_ack(code, start_sender(), 0), start_sender())
        self.assertEqual(hear_rise(code, ((0,), False, 1), 1), ((0,), False, 1))
        self.assertEqual(hear_rise(code, ((0, 1), True, 1), 4), ((0, 1, 3), False, 4))

    def test_no_frames(self):
        code = Code(chain_order(1), 0, ())
        self.assertEqual(hear_rise(code, start_sender(), 0), ((), True, 0))
        self.assertIsNone(aim_of(code, (), 0))

    def test_results_are_tuples(self):
        code = branched()
        for sender in (start_sender(), hear_rise(code, start_sender(), 4), hear_ack(code, ((0,), False, 4), 0)):
            self.assertEqual((type(sender), type(sender[0]), type(sender[1])), (tuple, tuple, bool))


class Receivers(unittest.TestCase):
    def test_frames_count_at_their_first_coming(self):
        row = ()
        for frame, behind in ((2, (2,)), (2, (2,)), (0, (2, 0)), (2, (2, 0)), (0, (2, 0)), (23, (2, 0, 23))):
            row = hear_frame(row, frame)
            self.assertEqual(row, behind)
            self.assertEqual(ack_frame(row), behind[-1])
        self.assertIsNone(ack_frame(()))
        self.assertEqual(hear_frame([2, 0], 1), (2, 0, 1))
        self.assertEqual(hear_frame([2, 0], 0), (2, 0))
        self.assertEqual(ack_frame([2, 0]), 0)

    def test_what_is_passed_stays_as_it_was(self):
        row = [1]
        hear_frame(row, 0)
        self.assertEqual(row, [1])


class Run:
    """A sender and a receiver, with all that was ever sent between them; everything is checked at each step."""

    def __init__(self, case, code):
        self.case, self.code = case, code
        self.sender, self.row, self.shown = start_sender(), (), 0
        self.frames, self.acks = set(), set()

    def look(self):
        code, case = self.code, self.case
        row, acked, risen = self.sender
        case.assertIn(self.row, (row, row[:-1]))
        if acked:
            case.assertEqual(self.row, row)
        shown = shown_state(code, self.row)
        case.assertTrue(code.order.at_most(shown, risen))
        case.assertTrue(code.order.at_most(self.shown, shown))
        case.assertTrue(read_place(code, row).follows)
        self.shown = shown
        self.frames |= {sent_frame(self.sender)} - {None}
        self.acks |= {ack_frame(self.row)} - {None}

    def rise(self, state):
        self.sender = hear_rise(self.code, self.sender, state)
        self.look()

    def come(self, frame):
        self.row = hear_frame(self.row, frame)
        self.look()

    def go_back(self, frame):
        self.sender = hear_ack(self.code, self.sender, frame)
        self.look()

    def step(self, dice):
        """Do anything that can be: a rise, or any old or new frame or acknowledgement."""
        word = dice.random()
        above = self.code.order.above(self.sender[2])
        if word < 0.15 and above:
            self.rise(dice.choice(above))
        elif word < 0.55 and self.frames:
            self.come(dice.choice(sorted(self.frames)))
        elif self.acks:
            self.go_back(dice.choice(sorted(self.acks)))

    def calm(self):
        """Let all that is being sent come, until nothing is sent any more."""
        for _ in range(2 * self.code.m + 2):
            if sent_frame(self.sender) is not None:
                self.come(sent_frame(self.sender))
            if ack_frame(self.row) is not None:
                self.go_back(ack_frame(self.row))
        self.case.assertTrue(self.sender[1])
        self.case.assertEqual(self.row, self.sender[0])
        self.case.assertEqual(self.shown, self.sender[2])


class Runs(unittest.TestCase):
    def codes(self):
        more = [wide_order(), facts_order(4, [])[0], flat_order(24), chain_order(24)]
        return right_codes() + [make(order, 24) for order in more for make in (deep_code, quick_code)] + [
            quick_code(order, need_of(order) + 1) for order in form_orders()] + [branched()]

    def test_repeats_late_frames_and_further_rises(self):
        dice = random.Random(6)
        for code in self.codes():
            for steps in (5, 30, 120):
                run = Run(self, code)
                run.look()
                for _ in range(steps):
                    run.step(dice)
                run.calm()

    def test_one_rise_at_a_time_spends_the_row_of_the_route(self):
        for code in self.codes()[:90]:
            rows = rows_told(code)
            for state in range(code.order.n):
                run = Run(self, code)
                run.rise(state)
                run.calm()
                self.assertEqual(run.row, rows[route_between(code.order, 0, state)])

    def test_losses_only_delay(self):
        code = quick_code(chain_order(4), 5)
        run = Run(self, code)
        run.rise(1)
        self.assertEqual((sent_frame(run.sender), run.row, run.shown), (0, (), 0))
        run.rise(3)
        self.assertEqual((sent_frame(run.sender), run.row, run.shown), (0, (), 0))
        run.come(0)
        self.assertEqual((sent_frame(run.sender), run.row, run.shown), (0, (0,), 1))
        run.come(0)
        run.go_back(0)
        self.assertEqual((sent_frame(run.sender), run.row, run.shown), (1, (0,), 1))
        run.come(0)
        run.go_back(0)
        self.assertEqual((sent_frame(run.sender), run.row, run.shown), (1, (0,), 1))
        run.calm()
        self.assertEqual(run.row, (0, 1, 2))

    def test_a_wrong_code_can_be_told_by_a_run(self):
        # The rows for 1 and 2 meet: the check of runs must see that a state is shown to which the source never rose.
        code = Code(flat_order(3), 2, [(0, 2, [(0,), (0, 1)])])
        run = Run(self, code)
        with self.assertRaises(AssertionError):
            run.rise(2)
            run.calm()
