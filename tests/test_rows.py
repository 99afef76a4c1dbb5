"""[3.1] to [3.7]."""

import itertools
import math
import random
import unittest

from spentframes import rows
from spentframes.errors import BadCount, BadFrames, BadPlace, BadRow
from spentframes.rows import (
    all_rows, begins_row, check_count, check_row, count_all_rows, count_among, count_falling, first_meeting,
    first_time_row, row_at, row_number, row_numbered, row_place, spell_row, unspent_frames, which_begins)
from tests.helpers import raised

NO_COUNTS = (-1, 25, True, False, None, "3", 3.0, (3,))
NO_SEQUENCES = (None, "01", 3, {0: 0}, {0, 1}, iter([0]))


def listed(m):
    """Return all rows over m frames in order, by listing permutations."""
    return [row for d in range(m + 1) for row in itertools.permutations(range(m), d)]


class Rows(unittest.TestCase):
    def bad_count(self, most, call, *given):
        self.assertEqual(raised(self, BadCount, call, *given), {"most": most})

    def bad_row(self, at, call, *given):
        self.assertEqual(raised(self, BadRow, call, *given), {"at": at})


class Checks(Rows):
    def test_counts(self):
        self.assertEqual(rows.MOST_FRAMES, 24)
        for m in range(25):
            self.assertEqual(check_count(m), m)
        for m in NO_COUNTS:
            self.bad_count(24, check_count, m)
        for most in (0, 3, 64):
            self.assertEqual(check_count(most, most), most)
            self.assertEqual(check_count(0, most=most), 0)
            self.bad_count(most, check_count, most + 1, most)
            self.bad_count(most, check_count, True, most)

    def test_rows(self):
        for row in listed(4):
            self.assertEqual(check_row(4, row), row)
            self.assertEqual(check_row(4, list(row)), row)
            self.assertIs(type(check_row(4, list(row))), tuple)
        self.assertEqual(check_row(24, list(range(23, -1, -1))), tuple(range(23, -1, -1)))
        self.assertEqual(check_row(0, []), ())

    def test_every_function_that_takes_a_row_refuses_the_same(self):
        for call in (check_row, row_place, row_number, unspent_frames):
            for m in NO_COUNTS:
                self.bad_count(24, call, m, None)
            for row in NO_SEQUENCES:
                self.bad_row(-1, call, 3, row)
            for row, at in (((3,), 0), ((0, -1), 1), ((0, 1, 0), 2), ([2, 2, 9], 1), ((0, True), 1), ((False,), 0),
                            ((0, None), 1), ((0, "1"), 1), ((1, (0,)), 1), ((0, 1, 2, 0), 3), ((0, 1, 2, 3), 3)):
                self.bad_row(at, call, 3, row)
            self.bad_row(0, call, 0, (0,))
            self.bad_row(1, call, 24, (23, 24))

    def test_what_is_passed_is_neither_changed_nor_kept(self):
        row = [2, 0]
        checked = check_row(3, row)
        self.assertEqual((row_place(3, row), row_number(3, row), unspent_frames(3, row)), (4, 8, (1,)))
        self.assertEqual(row, [2, 0])
        row.append(1)
        self.assertEqual(checked, (2, 0))


class Counting(Rows):
    def test_rows_of_one_length(self):
        for m in range(7):
            for d in range(10):
                self.assertEqual(count_falling(m, d), len(list(itertools.permutations(range(m), d))))
        self.assertEqual(count_falling(24, 24), math.factorial(24))
        self.assertEqual(count_falling(24, 0), 1)
        self.assertEqual(count_falling(23, 24), 0)
        self.assertEqual(count_falling(0, 24), 0)

    def test_all_rows(self):
        self.assertEqual([count_all_rows(m) for m in range(7)], [1, 2, 5, 16, 65, 326, 1957])
        wanted = 1
        for m in range(1, 25):
            wanted = m * wanted + 1
            self.assertEqual(count_all_rows(m), wanted)

    def test_wrong_counts(self):
        for m in NO_COUNTS:
            self.bad_count(24, count_falling, m, 99)
            self.bad_count(24, count_falling, 3, m)
            self.bad_count(24, count_all_rows, m)


class Places(Rows):
    def test_places_there_and_back(self):
        for m in range(6):
            for d in range(m + 1):
                for place, row in enumerate(itertools.permutations(range(m), d)):
                    self.assertEqual(row_place(m, row), place)
                    self.assertEqual(row_at(m, d, place), row)

    def test_numbers_there_and_back(self):
        for m in range(6):
            for number, row in enumerate(listed(m)):
                self.assertEqual(row_number(m, row), number)
                self.assertEqual(row_numbered(m, number), row)

    def test_24_frames(self):
        dice = random.Random(3)
        for d in (0, 1, 5, 12, 23, 24):
            for _ in range(20):
                row = tuple(dice.sample(range(24), d))
                self.assertEqual(row_at(24, d, row_place(24, row)), row)
                self.assertEqual(row_numbered(24, row_number(24, row)), row)
        last = tuple(range(23, -1, -1))
        self.assertEqual(row_place(24, last), math.factorial(24) - 1)
        self.assertEqual(row_number(24, last), count_all_rows(24) - 1)
        self.assertEqual(row_at(24, 24, math.factorial(24) - 1), last)
        self.assertEqual(row_numbered(24, count_all_rows(24) - 1), last)
        self.assertEqual(row_number(24, (0,)), 1)
        self.assertEqual(row_numbered(24, 25), (0, 1))

    def test_tuples_come_out(self):
        for row in (row_at(3, 2, 0), row_numbered(3, 5), row_at(0, 0, 0), row_numbered(0, 0)):
            self.assertIs(type(row), tuple)

    def test_wrong_lengths_and_places(self):
        for m in NO_COUNTS:
            self.bad_count(24, row_at, m, 99, -1)
            self.bad_count(24, row_numbered, m, -1)
        for d in (4, -1, True, None, "2", 2.0):
            self.bad_count(3, row_at, 3, d, -1)
        self.bad_count(0, row_at, 0, 1, 0)
        for place in (6, -1, True, None, "0", 10 ** 9):
            self.assertEqual(raised(self, BadPlace, row_at, 3, 2, place), {})
        for number in (16, -1, True, None, "0", 10 ** 9):
            self.assertEqual(raised(self, BadPlace, row_numbered, 3, number), {})
        self.assertEqual(raised(self, BadPlace, row_at, 0, 0, 1), {})
        self.assertEqual(raised(self, BadPlace, row_numbered, 0, 1), {})

    def test_all_rows_in_order(self):
        self.assertEqual(list(all_rows(2)), [(), (0,), (1,), (0, 1), (1, 0)])
        for m in range(7):
            self.assertEqual(list(all_rows(m)), listed(m))

    def test_rows_are_listed_up_to_6_frames(self):
        for m in (7, 24) + NO_COUNTS:
            self.bad_count(6, lambda: list(all_rows(m)))


class Beginnings(Rows):
    def test_one_begins_another(self):
        for one, other in itertools.product(listed(3), repeat=2):
            self.assertIs(begins_row(one, other), len(one) <= len(other) and all(a == b for a, b in zip(one, other)))

    def test_examples(self):
        self.assertIs(begins_row((), ()), True)
        self.assertIs(begins_row((), (5, 5)), True)
        self.assertIs(begins_row((5,), (5, 99)), True)
        self.assertIs(begins_row((5, 99), (5,)), False)

    def test_first_meeting(self):
        dice = random.Random(4)
        for _ in range(300):
            some = [dice.choice(listed(4)[1:]) for _ in range(dice.randrange(7))]
            meeting = [(i, j) for i, j in itertools.combinations(range(len(some)), 2)
                       if begins_row(some[i], some[j]) or begins_row(some[j], some[i])]
            self.assertEqual(first_meeting(some), min(meeting, default=None))
        self.assertEqual(first_meeting([(0,), (1, 2), (2,), (1,), (0, 1)]), (0, 4))
        self.assertEqual(first_meeting(((1,), (0,), ())), (0, 2))
        self.assertEqual(first_meeting([(1,), (1,)]), (0, 1))
        self.assertIsNone(first_meeting([]))
        self.assertIsNone(first_meeting([()]))

    def test_which_begins(self):
        dice = random.Random(5)
        for _ in range(300):
            some = [dice.choice(listed(4)[1:]) for _ in range(dice.randrange(7))]
            row = dice.choice(listed(4))
            found = [at for at, one in enumerate(some) if row[:len(one)] == one]
            self.assertEqual(which_begins(some, row), found[0] if found else None)
        self.assertEqual(which_begins(((1,), (0,), (0, 1), ()), (0, 1)), 1)
        self.assertIsNone(which_begins([(0, 1)], (0,)))
        self.assertIsNone(which_begins([], ()))


class Unspent(Rows):
    def test_unspent_frames(self):
        for row in listed(5):
            self.assertEqual(unspent_frames(5, row), tuple(sorted(set(range(5)) - set(row))))
        self.assertEqual(unspent_frames(24, list(range(23))), (23,))
        self.assertEqual(unspent_frames(0, ()), ())

    def test_frames_counted_among_those_left(self):
        for left in ((), (3,), (0, 1, 2), [2, 5, 23], (1, 4, 6, 20)):
            for row in listed(len(left)):
                spelt = tuple(left[at] for at in row)
                for made in (row, list(row)):
                    self.assertEqual(spell_row(left, made), spelt)
                    self.assertIs(type(spell_row(left, made)), tuple)
                for made in (spelt, list(spelt)):
                    self.assertEqual(count_among(left, made), row)
                    self.assertIs(type(count_among(left, made)), tuple)
        every = list(range(24))
        self.assertEqual(spell_row(every, every), tuple(every))
        self.assertEqual(count_among(every, every), tuple(every))

    def test_wrong_frames(self):
        for call in (spell_row, count_among):
            for left in NO_SEQUENCES:
                self.assertEqual(raised(self, BadFrames, call, left, None), {"at": -1})
            for left, at in (((24,), 0), ((-1, 0), 0), ((0, 0), 1), ([3, 2], 1), ((0, True), 1), ((False, 1), 0),
                             ((0, 5, 5), 2), ((0, None), 1), ((0, 2, 1, 9), 2), (("0",), 0), ((0, 24), 1)):
                self.assertEqual(raised(self, BadFrames, call, left, None), {"at": at}, left)

    def test_wrong_rows(self):
        for call in (spell_row, count_among):
            for row in NO_SEQUENCES:
                self.bad_row(-1, call, (0, 1), row)
        for row, at in (((3,), 0), ((0, -1), 1), ((1, 1), 1), ((0, True), 1), ((2, 0, 7), 2), ((0, None), 1)):
            self.bad_row(at, spell_row, (1, 7, 9), row)
        for row, at in (((0,), 0), ((1, 2), 1), ((7, 7), 1), ((9, True), 1), ((9, 1, 2), 2), ((1, None), 1),
                        ((1, 7, 9, 1), 3), ((-1,), 0)):
            self.bad_row(at, count_among, (1, 7, 9), row)
        self.bad_row(0, spell_row, (), (0,))
        self.bad_row(0, count_among, (), (0,))

    def test_first_times(self):
        self.assertEqual(first_time_row([3, 1, 3, 0, 1, 5]), (3, 1, 0, 5))
        self.assertEqual(first_time_row(()), ())
        self.assertEqual(first_time_row((7, 7, 7)), (7,))
        self.assertEqual(first_time_row([99, -4, 99]), (99, -4))

    def test_a_beginning_has_a_beginning_as_its_first_row(self):
        dice = random.Random(6)
        frames = [dice.randrange(9) for _ in range(40)]
        for length in range(41):
            self.assertTrue(begins_row(first_time_row(frames[:length]), first_time_row(frames)))
