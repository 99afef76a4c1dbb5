"""[1.1] and the words of [0.4] and [0.5] on whole numbers and sequences."""

import unittest

from spentframes.wholes import as_tuples, is_couple, is_sequence, is_whole

NO_WHOLES = (True, False, None, 1.0, "1", b"1", (1,), [1], {1: 1}, {1}, 1j)
NO_SEQUENCES = ("ab", "", b"ab", {}, {1: 2}, set(), {1}, None, 3, range(3), iter([1]))


class Wholes(unittest.TestCase):
    def test_whole_numbers_without_bounds(self):
        for thing in (0, 1, -1, 10 ** 30, -10 ** 30):
            self.assertIs(is_whole(thing), True)

    def test_other_things_are_none(self):
        for thing in NO_WHOLES:
            self.assertIs(is_whole(thing), False, thing)
            self.assertIs(is_whole(thing, 0, 9), False, thing)

    def test_the_bounds_are_let(self):
        for thing in range(-5, 6):
            self.assertIs(is_whole(thing, -2, 3), -2 <= thing <= 3)
            self.assertIs(is_whole(thing, 0), thing >= 0)
            self.assertIs(is_whole(thing, None, 0), thing <= 0)
            self.assertIs(is_whole(thing, None, -1), thing <= -1)
            self.assertIs(is_whole(thing, low=1), thing >= 1)
            self.assertIs(is_whole(thing, high=2), thing <= 2)
            self.assertIs(is_whole(thing, None, None), True)

    def test_nothing_lies_between_crossed_bounds(self):
        self.assertIs(is_whole(0, 0, -1), False)


class Sequences(unittest.TestCase):
    def test_lists_and_tuples(self):
        for thing in ([], (), [1], (1,), [[]], ((),)):
            self.assertIs(is_sequence(thing), True)

    def test_other_things_are_none(self):
        for thing in NO_SEQUENCES:
            self.assertIs(is_sequence(thing), False, thing)

    def test_couples_hold_two_whole_numbers_up_to_the_bound(self):
        for thing in ((0, 0), [0, 2], (2, 1)):
            self.assertIs(is_couple(thing, 2), True)
        for thing in ((0,), (0, 1, 2), (0, 3), (3, 0), (-1, 0), (0, -1), (True, 0), (0, False), "01", None, {0: 1, 1: 0}):
            self.assertIs(is_couple(thing, 2), False, thing)

    def test_lists_become_tuples_within_one_another(self):
        given = [1, [2, ([], "ab")], {"k": [3]}]
        self.assertEqual(as_tuples(given), (1, (2, ((), "ab")), {"k": [3]}))
        self.assertEqual(given, [1, [2, ([], "ab")], {"k": [3]}])
        for thing in (None, 5, "ab", (), (1, (2,))):
            self.assertEqual(as_tuples(thing), thing)
