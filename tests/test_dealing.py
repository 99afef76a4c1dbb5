"""[4.1] to [4.5]."""

import itertools
import math
import random
import unittest

from spentframes.dealing import (
    deal_rows, deal_shortage, dealing_fault, free_rows, is_full, lengths_fit, weight_of)
from spentframes.errors import BadCount, BadLengths, BadTaken
from tests.helpers import raised

NO_COUNTS = (-1, 25, True, False, None, "3", 3.0)
NO_SEQUENCES = (None, "01", 3, {0: 0}, {0}, iter([0]))


def meet(one, other):
    """Tell whether one of two rows begins the other."""
    short = min(len(one), len(other))
    return tuple(one[:short]) == tuple(other[:short])


def rows_of(k, d):
    return list(itertools.permutations(range(k), d))


def free_of(k, d, taken):
    return [row for row in rows_of(k, d) if not any(meet(row, one) for one in taken)]


def can_be_dealt(k, lengths, taken):
    """Tell whether there is a dealing, by a search through all choices."""
    if not lengths:
        return True
    return any(can_be_dealt(k, lengths[1:], taken + [row]) for row in free_of(k, lengths[0], taken))


def dealt_by_listing(k, lengths, taken):
    """Return the dealing as [4.3] tells it, taking rows off the list of all rows."""
    rows, dealing = list(taken), [None] * len(lengths)
    for length, at in sorted((length, at) for at, length in enumerate(lengths)):
        free = free_of(k, length, rows)
        if not free:
            return None
        dealing[at] = free[0]
        rows.append(free[0])
    return tuple(dealing)


def random_taken(dice, k):
    """Return rows over k frames no two of which meet."""
    taken = []
    for _ in range(dice.randrange(6)):
        row = tuple(dice.sample(range(k), dice.randint(min(1, k), k)))
        if not any(meet(row, one) for one in taken):
            taken.append(row)
    return taken


def cases(most, count, seed):
    """Return (k, lengths, taken) of many kinds over few frames."""
    dice = random.Random(seed)
    found = []
    for _ in range(count):
        k = dice.randrange(most + 1)
        lengths = [dice.randint(min(1, k), k) for _ in range(dice.randrange(6))]
        found.append((k, lengths, random_taken(dice, k) if dice.random() < 0.7 else []))
    return found


class Dealing(unittest.TestCase):
    def is_dealing(self, k, lengths, rows, taken):
        """Check a dealing by its definition."""
        self.assertIs(type(rows), tuple)
        self.assertTrue(all(type(row) is tuple for row in rows))
        self.assertEqual([len(row) for row in rows], list(lengths))
        self.assertTrue(all(len(set(row)) == len(row) and set(row) <= set(range(k)) for row in rows))
        for one, other in itertools.combinations(list(rows) + list(taken), 2):
            self.assertFalse(meet(one, other))


class FreeRows(Dealing):
    def test_free_rows_against_a_listing(self):
        for k, _, taken in cases(5, 300, 1):
            for d in range(k + 1):
                self.assertEqual(free_rows(k, d, taken), len(free_of(k, d, taken)), (k, d, taken))

    def test_taken_rows_with_a_common_beginning_take_it_once(self):
        self.assertEqual(free_rows(3, 1, [(0, 1), (0, 2)]), 2)
        self.assertEqual(free_rows(3, 2, [(0, 1, 2), (0, 2), (1,)]), 2)
        self.assertEqual(free_rows(24, 2, [[0, 1, 2], [0, 1, 3], [5]]), 24 * 23 - 1 - 23)

    def test_the_empty_row(self):
        self.assertEqual(free_rows(3, 0, []), 1)
        self.assertEqual(free_rows(3, 0, [(1,)]), 0)
        self.assertEqual([free_rows(3, d, [()]) for d in range(4)], [0, 0, 0, 0])
        self.assertEqual(free_rows(0, 0, ()), 1)
        self.assertEqual(free_rows(0, 0, ((),)), 0)

    def test_full(self):
        for k, _, taken in cases(4, 300, 2):
            every = all(any(row[:len(one)] == one for one in taken) for row in rows_of(k, k))
            self.assertIs(is_full(k, taken), every)
        self.assertIs(is_full(3, [[]]), True)
        self.assertIs(is_full(3, []), False)
        self.assertIs(is_full(0, []), False)
        self.assertIs(is_full(0, [()]), True)
        self.assertIs(is_full(3, [(0,), (1,), (2, 0), (2, 1)]), True)
        self.assertIs(is_full(3, [(0,), (1,), (2, 0)]), False)
        self.assertIs(is_full(24, [(k,) for k in range(24)]), True)
        self.assertIs(is_full(24, [(k,) for k in range(23)] + [[23, k] for k in range(22)]), False)


class Weights(Dealing):
    def test_weights(self):
        self.assertEqual(weight_of(4, [1, 2, 4, 4]), 6 + 2 + 1 + 1)
        self.assertEqual(weight_of(4, ()), 0)
        self.assertEqual(weight_of(0, [0, 0]), 2)
        self.assertEqual(weight_of(24, [0] * 64), 64 * math.factorial(24))

    def test_lengths_fit_exactly_if_they_can_be_dealt(self):
        for k in range(4):
            for count in range(5):
                for lengths in itertools.product(range(k + 1), repeat=count):
                    self.assertIs(lengths_fit(k, lengths), can_be_dealt(k, list(lengths), []), (k, lengths))

    def test_bounds(self):
        self.assertIs(lengths_fit(24, [1] * 24), True)
        self.assertIs(lengths_fit(24, [1] * 24 + [24]), False)
        self.assertIs(lengths_fit(3, [1, 1, 2, 3]), True)
        self.assertIs(lengths_fit(3, [1, 1, 2, 3, 3]), False)
        self.assertIs(lengths_fit(0, []), True)
        self.assertIs(lengths_fit(0, [0]), True)
        self.assertIs(lengths_fit(0, [0, 0]), False)


class Deals(Dealing):
    def test_the_example(self):
        self.assertEqual(deal_rows(2, (2, 1)), ((1, 0), (0,)))

    def test_examples_by_hand(self):
        self.assertEqual(deal_rows(3, [2, 1, 2]), ((1, 0), (0,), (1, 2)))
        self.assertEqual(deal_rows(3, [2, 2, 1], [(0, 1, 2)]), ((0, 2), (2, 0), (1,)))
        self.assertEqual(deal_rows(3, [3, 3], [[0, 1], (1,)]), ((0, 2, 1), (2, 0, 1)))
        self.assertEqual(deal_rows(3, []), ())
        self.assertEqual(deal_rows(0, [0]), ((),))
        self.assertEqual(deal_rows(3, [0]), ((),))
        self.assertIsNone(deal_rows(3, [0, 3]))
        self.assertIsNone(deal_rows(3, [0], [(1, 2, 0)]))
        self.assertIsNone(deal_rows(0, [0], [()]))
        self.assertEqual(deal_rows(3, (), [()]), ())

    def test_rows_are_dealt_by_length_then_index(self):
        for k, lengths, taken in cases(4, 400, 3):
            self.assertEqual(deal_rows(k, lengths, taken), dealt_by_listing(k, lengths, taken), (k, lengths, taken))
            self.assertEqual(deal_rows(k, tuple(lengths), tuple(taken)), deal_rows(k, lengths, [list(row) for row in taken]))

    def test_there_is_a_dealing_exactly_if_a_search_finds_one(self):
        for k, lengths, taken in cases(3, 400, 4):
            found = can_be_dealt(k, lengths, taken)
            dealing = deal_rows(k, lengths, taken)
            self.assertIs(dealing is not None, found, (k, lengths, taken))
            self.assertIs(deal_shortage(k, lengths, taken) is None, found, (k, lengths, taken))
            if found:
                self.is_dealing(k, lengths, dealing, taken)
                self.assertIsNone(dealing_fault(k, lengths, dealing, taken))

    def test_full_dealings_and_one_row_more(self):
        for k in range(1, 5):
            for lengths in ([1] * k, [k] * math.factorial(k), [1] * (k - 1) + [k] * math.factorial(k - 1)):
                rows = deal_rows(k, lengths)
                self.is_dealing(k, lengths, rows, ())
                self.assertIs(is_full(k, rows), True)
                self.assertIsNone(deal_rows(k, lengths + [k]))
                self.assertEqual(deal_shortage(k, lengths + [k])[0], k)

    def test_24_frames_and_64_items(self):
        rows = deal_rows(24, [24] * 32 + [10] * 20 + [1] * 12)
        self.is_dealing(24, [24] * 32 + [10] * 20 + [1] * 12, rows, ())
        self.assertEqual(rows[-1], (11,))
        self.assertEqual(rows[32], (12, 0, 1, 2, 3, 4, 5, 6, 7, 8))
        taken = [row for row in rows if len(row) > 1]
        more = deal_rows(24, [24] * 64, taken)
        self.is_dealing(24, [24] * 64, more, taken)
        self.assertIsNone(dealing_fault(24, [24] * 64, more, taken))
        self.assertIsNone(deal_rows(24, [1] * 24 + [24]))
        narrow = [(k,) for k in range(23)] + [(23, k) for k in range(22)]
        self.assertEqual(deal_rows(24, [3], narrow), ((23, 22, 0),))
        self.assertEqual(deal_rows(24, [3, 4], narrow + [(23, 22, 0)]), ((23, 22, 1), (23, 22, 2, 0)))
        self.assertEqual(deal_shortage(24, [1] * 24 + [24]), (24, math.factorial(24) + 1, math.factorial(24)))

    def test_the_shortage_at_its_least_length(self):
        for k, lengths, taken in cases(4, 400, 5):
            wanted = None
            for d in range(k, -1, -1):
                room = sum(math.perm(k - length, d - length) for length in lengths if length <= d)
                if room > len(free_of(k, d, taken)):
                    wanted = (d, room, len(free_of(k, d, taken)))
            self.assertEqual(deal_shortage(k, lengths, taken), wanted)
        self.assertEqual(deal_shortage(3, [1, 1, 1, 1]), (1, 4, 3))
        self.assertEqual(deal_shortage(3, [2, 2], [(0,), (1,), (2, 0)]), (2, 2, 1))
        self.assertEqual(deal_shortage(0, [0, 0]), (0, 2, 1))
        self.assertEqual(deal_shortage(3, [0], [(0, 1, 2)]), (0, 1, 0))
        self.assertIsNone(deal_shortage(3, []))

    def test_what_is_passed_is_not_changed(self):
        lengths, taken = [2, 1], [[2, 0, 1]]
        deal_rows(3, lengths, taken)
        deal_shortage(3, lengths, taken)
        dealing_fault(3, lengths, [[0, 1], [1]], taken)
        free_rows(3, 2, taken)
        self.assertEqual((lengths, taken), ([2, 1], [[2, 0, 1]]))


class Faults(Dealing):
    def test_right_dealings_have_none(self):
        self.assertIsNone(dealing_fault(3, (), ()))
        self.assertIsNone(dealing_fault(3, [2, 1], [[0, 2], (1,)]))
        self.assertIsNone(dealing_fault(3, [2, 1], ((0, 2), (1,)), [[0, 1], (2,)]))
        self.assertIsNone(dealing_fault(0, [0], [()]))

    def test_each_fault(self):
        for rows in NO_SEQUENCES + ((), [(0,)], [(0,), (1,), (2,)]):
            self.assertEqual(dealing_fault(3, [1, 1], rows), ("many", -1))
        for row in NO_SEQUENCES + ((3,), (-1,), (True,), (None,), ((0,),)):
            self.assertEqual(dealing_fault(3, [1, 1], [(0,), row]), ("row", 1), row)
        self.assertEqual(dealing_fault(3, [1, 2], [(0,), (1, 1)]), ("row", 1))
        for row in ((), (1, 2), (0, 1)):
            self.assertEqual(dealing_fault(3, [1, 1], [(0,), row]), ("length", 1))
        self.assertEqual(dealing_fault(3, [1, 1], [(0,), [0]]), ("begins", 1))
        self.assertEqual(dealing_fault(3, [1, 2], [(0,), [0, 1]]), ("begins", 1))
        self.assertEqual(dealing_fault(3, [2, 1], [(0, 1), [0]]), ("begins", 1))
        self.assertEqual(dealing_fault(3, [1, 1], [(0,), (1,)], [(1, 2)]), ("begins", 1))
        self.assertEqual(dealing_fault(3, [1, 2], [(0,), (1, 0)], [(1,)]), ("begins", 1))

    def test_the_first_fault_counts(self):
        self.assertEqual(dealing_fault(3, [1, 1, 1], [(0,), (0,), (3,)]), ("begins", 1))
        self.assertEqual(dealing_fault(3, [1, 1, 1], [(0, 1), (0,), (3,)]), ("length", 0))
        self.assertEqual(dealing_fault(3, [1, 1, 1], [(0,), (3, 3), (0,)]), ("row", 1))
        self.assertEqual(dealing_fault(3, [1, 1], [(3,)]), ("many", -1))
        self.assertEqual(dealing_fault(3, [1, 1], [(0,), (0, 1)], [(0, 2)]), ("begins", 0))

    def test_against_the_definition(self):
        dice = random.Random(7)
        for k, lengths, taken in cases(3, 500, 6):
            rows = [dice.choice(rows_of(k, length)) for length in lengths]
            fault = None
            for at in reversed(range(len(rows))):
                if any(meet(rows[at], one) for one in taken + rows[:at]):
                    fault = ("begins", at)
            self.assertEqual(dealing_fault(k, lengths, rows, taken), fault)


class WrongThings(Dealing):
    def refused(self, error, told, call, *given):
        self.assertEqual(raised(self, error, call, *given), told, given)

    def test_counts_come_first(self):
        for k in NO_COUNTS:
            for call, given in ((free_rows, (99, None)), (is_full, (None,)), (deal_rows, (None, None)),
                                (weight_of, (None,)), (lengths_fit, (None,)), (deal_shortage, (None, None)),
                                (dealing_fault, (None, None, None))):
                self.refused(BadCount, {"most": 24}, call, k, *given)

    def test_the_length_of_free_rows(self):
        for d in (4, -1, True, None, "1"):
            self.refused(BadCount, {"most": 3}, free_rows, 3, d, None)

    def test_lengths(self):
        for call, more in ((deal_rows, (None,)), (weight_of, ()), (lengths_fit, ()), (deal_shortage, (None,)),
                           (dealing_fault, (None, None))):
            for lengths in NO_SEQUENCES + ([1] * 65, (9,) * 65):
                self.refused(BadLengths, {"at": -1}, call, 3, lengths, *more)
            for length in (4, -1, True, False, None, "1", 1.0, (1,)):
                self.refused(BadLengths, {"at": 2}, call, 3, [1, 0, length, 9], *more)
        self.assertEqual(weight_of(3, [3] * 64), 64)
        self.assertIsNone(deal_rows(3, [3] * 64))

    def test_taken_rows(self):
        for call, more in ((free_rows, (1,)), (is_full, ()), (deal_rows, ([1],)), (deal_shortage, ([1],)),
                           (dealing_fault, ([1], [(0,)]))):
            for taken in NO_SEQUENCES:
                self.refused(BadTaken, {"at": -1}, call, 3, *more, taken)
            for row in NO_SEQUENCES + ((3,), (1, 1), (True,), (1,), (), (1, 2), (1, 2, 0), ["1"]):
                self.refused(BadTaken, {"at": 1}, call, 3, *more, [(1, 2), row, None])
        self.refused(BadTaken, {"at": 2}, is_full, 3, [(0, 1), (2,), (0, 1, 2)])
        self.refused(BadTaken, {"at": 2}, is_full, 3, [(0, 1), (2,), [0, 1]])

    def test_64_and_65_taken_rows(self):
        taken = rows_of(9, 2)[:64]
        self.assertEqual(free_rows(9, 2, taken), 72 - 64)
        self.refused(BadTaken, {"at": -1}, free_rows, 9, 2, rows_of(9, 2)[:65])
        self.refused(BadTaken, {"at": -1}, free_rows, 9, 2, [None] * 65)
