"""[5.1], [5.3] to [5.6], [5.9] and [5.10]."""

import random
import unittest

from spentframes.codes import (
    Code, code_above, code_fault, code_length, code_text, deep_code, reached_couples, read_code, widened_code)
from spentframes.datatext import data_text
from spentframes.errors import BadCode, BadCount, BadShape, BadText, FewFrames, NotReached
from spentframes.makers import chain_order, flat_order, upper_order
from spentframes.needs import need_of, need_table
from spentframes.orders import Order
from spentframes.plans import plan_fault, plan_of_lengths
from tests.helpers import form_orders, raised, right_codes, wide_order

NO_COUNTS = (-1, 25, True, False, None, "3", 3.0)


def courses_told(code):
    """Return (last state, frames left, couples) for each course from 0, going along the entries."""
    told, waiting = [], [((0, code.m),)]
    while waiting:
        couples = waiting.pop()
        told.append(couples)
        state, k = couples[-1]
        rows = [plan for x, left, plan in code.entries if (x, left) == (state, k)]
        for at, cover in enumerate(code.order.covers(state)):
            waiting.append(couples + ((cover, k - len(rows[0][at])),))
    return told


def reached_by_search(code):
    couples = {course[-1] for course in courses_told(code)}
    return tuple(sorted(couples, key=lambda couple: (-couple[1], couple[0])))


class Codes(unittest.TestCase):
    def test_attributes(self):
        order = chain_order(3)
        entries = [[1, 1, [[0]]], (0, 3, ((1, 0),)), [0, 2, [[1]]]]
        code = Code(order, 3, entries)
        self.assertIs(code.order, order)
        self.assertEqual(code.m, 3)
        self.assertEqual(code.entries, ((0, 2, ((1,),)), (0, 3, ((1, 0),)), (1, 1, ((0,),))))
        self.assertIs(type(code.entries), tuple)
        for entry in code.entries:
            self.assertTrue(all(type(thing) is tuple for thing in (entry, entry[2], entry[2][0])))

    def test_entries_are_neither_changed_nor_kept(self):
        entries = [[1, 1, [[0]]], [0, 2, [[1]]]]
        code = Code(chain_order(3), 2, entries)
        self.assertEqual(entries, [[1, 1, [[0]]], [0, 2, [[1]]]])
        entries[0][2][0].append(5)
        entries.append([9, 9, []])
        self.assertEqual(code.entries, ((0, 2, ((1,),)), (1, 1, ((0,),))))
        self.assertEqual(code.plan_at(1, 1), ((0,),))

    def test_nothing_is_checked(self):
        code = Code(chain_order(2), 0, [(1, 24, [[5, 5], []]), (0, 0, ())])
        self.assertEqual(code.entries, ((0, 0, ()), (1, 24, ((5, 5), ()))))

    def test_plans(self):
        code = Code(chain_order(3), 3, [[0, 3, [[2]]], [0, 3, [[1, 0]]], [1, 2, [[0]]], [2, 2, []]])
        self.assertEqual(code.plan_at(0, 3), ((1, 0),))
        self.assertEqual(code.plan_at(1, 2), ((0,),))
        self.assertEqual(code.plan_at(2, 2), ())
        for state, k in ((0, 2), (1, 3), (2, 1), (3, 2)):
            self.assertIsNone(code.plan_at(state, k))

    def test_equality(self):
        code = Code(chain_order(3), 2, [(0, 2, [(1,)]), (1, 1, [(0,)])])
        self.assertTrue(code == Code(Order(3, [[1, 2], [0, 1], [0, 2]]), 2, [[1, 1, [[0]]], [0, 2, [[1]]]]))
        self.assertFalse(code != Code(chain_order(3), 2, code.entries))
        self.assertTrue(code != Code(chain_order(4), 2, code.entries))
        self.assertTrue(code != Code(chain_order(3), 3, code.entries))
        self.assertTrue(code != Code(chain_order(3), 2, code.entries[:1]))
        self.assertTrue(code != Code(chain_order(3), 2, [(0, 2, [(0,)]), (1, 1, [(0,)])]))
        for thing in (None, (code.order, 2, code.entries), code.order, code.entries):
            self.assertFalse(code == thing)


class RightCodes(unittest.TestCase):
    def test_right_codes_have_no_fault(self):
        for code in right_codes():
            self.assertIsNone(code_fault(code))

    def test_reached_couples_in_their_order(self):
        for code in right_codes():
            couples = reached_couples(code)
            self.assertEqual(couples, reached_by_search(code))
            self.assertTrue(all(type(thing) is tuple for thing in (couples,) + couples))

    def test_reached_couples_by_hand(self):
        order = Order(5, [(0, 1), (0, 2), (1, 3), (2, 3), (0, 4)])
        code = Code(order, 4, [(0, 4, [(0,), (1, 2, 3), (2, 3)]), (1, 3, [(1,)]), (2, 1, [(0,)])])
        self.assertIsNone(code_fault(code))
        self.assertEqual(reached_couples(code), ((0, 4), (1, 3), (3, 2), (4, 2), (2, 1), (3, 0)))
        self.assertEqual(reached_couples(Code(chain_order(1), 7, ())), ((0, 7),))
        self.assertEqual(code_length(code), 4)

    def test_lengths(self):
        for code in right_codes():
            self.assertEqual(code_length(code), code.m - min(course[-1][1] for course in courses_told(code)))
        self.assertEqual(code_length(Code(chain_order(1), 5, [])), 0)
        self.assertEqual(code_length(Code(chain_order(2), 5, [(0, 5, [(1, 0)])])), 2)
        self.assertEqual(code_length(Code(flat_order(3), 5, [(0, 5, [(1, 0, 2), (0,)])])), 3)


class Faults(unittest.TestCase):
    def setUp(self):
        self.order = Order(6, [(0, 1), (0, 2), (1, 3), (1, 4), (2, 4), (2, 5)])
        self.entries = [(0, 4, [(0, 1), (1,)]), (1, 2, [(0,), (1,)]), (2, 3, [(2,), (0, 1)])]
        self.assertIsNone(code_fault(Code(self.order, 4, self.entries)))

    def fault(self, *entries, m=4):
        return code_fault(Code(self.order, m, entries))

    def test_lacking(self):
        first, second, third = self.entries
        self.assertEqual(self.fault(), ("lacking", 0, 4, -1))
        self.assertEqual(self.fault(second, third), ("lacking", 0, 4, -1))
        self.assertEqual(self.fault(first, third), ("lacking", 1, 2, -1))
        self.assertEqual(self.fault(first, second), ("lacking", 2, 3, -1))
        self.assertEqual(self.fault(first), ("lacking", 2, 3, -1))
        self.assertEqual(self.fault(*self.entries, m=5), ("lacking", 0, 5, -1))
        self.assertEqual(self.fault(m=0), ("lacking", 0, 0, -1))

    def test_twice(self):
        first, second, third = self.entries
        self.assertEqual(self.fault(first, second, third, second), ("twice", 1, 2, -1))
        self.assertEqual(self.fault(first, second, third, (1, 2, [])), ("twice", 1, 2, -1))
        self.assertEqual(self.fault(first, second, third, third, third, second), ("twice", 2, 3, -1))
        self.assertEqual(self.fault(first, first), ("twice", 0, 4, -1))

    def test_plans(self):
        first, second, third = self.entries
        self.assertEqual(self.fault(first, second, (2, 3, [])), ("many", 2, 3, -1))
        self.assertEqual(self.fault(first, second, (2, 3, [(0,), (1,), (2,)])), ("many", 2, 3, -1))
        self.assertEqual(self.fault(first, second, (2, 3, [(0,), (3,)])), ("row", 2, 3, 5))
        self.assertEqual(self.fault(first, second, (2, 3, [(), (1,)])), ("row", 2, 3, 4))
        self.assertEqual(self.fault(first, second, (2, 3, [(0,), (0, 1)])), ("begins", 2, 3, 5))
        self.assertEqual(self.fault((0, 4, [(0,), (4,)]), second, third), ("row", 0, 4, 2))
        self.assertEqual(self.fault((0, 0, [(0,), (1,)]), m=0), ("row", 0, 0, 1))

    def test_couples_are_looked_at_by_frames_descending_then_states(self):
        first, second, third = self.entries
        self.assertEqual(self.fault(first, (1, 2, []), (2, 3, [(0,), (0,)])), ("begins", 2, 3, 5))
        equal = (0, 4, [(0,), (1,)])
        self.assertEqual(self.fault(equal, (1, 3, []), (2, 3, [])), ("many", 1, 3, -1))
        self.assertEqual(self.fault(equal), ("lacking", 1, 3, -1))
        self.assertEqual(self.fault(equal, (1, 3, [(0,), (1,)])), ("lacking", 2, 3, -1))

    def test_spare(self):
        spare = self.fault(*self.entries, (2, 2, [(0,), (1,)]), (1, 3, []))
        self.assertEqual(spare, ("spare", 1, 3, -1))
        self.assertEqual(self.fault(*self.entries, (3, 1, [])), ("spare", 3, 1, -1))
        self.assertEqual(self.fault(*self.entries, (5, 1, []), (0, 24, [])), ("spare", 0, 24, -1))
        self.assertEqual(self.fault(*self.entries, (6, 2, [])), ("spare", 6, 2, -1))
        self.assertEqual(self.fault(*self.entries, (4, 2, []), (4, 0, [])), ("spare", 4, 0, -1))
        self.assertEqual(code_fault(Code(chain_order(1), 3, [(0, 3, [])])), ("spare", 0, 3, -1))

    def test_spare_comes_behind_all_else(self):
        first, second, _ = self.entries
        self.assertEqual(self.fault(first, second, (0, 1, []), (2, 3, [(0,)])), ("many", 2, 3, -1))

    def test_bent_codes(self):
        dice = random.Random(8)
        for code in right_codes():
            entries = [list(entry) for entry in code.entries]
            for _ in range(4):
                at = dice.randrange(len(entries) + 1)
                extra = [dice.randrange(code.order.n), dice.randrange(code.m + 1), [[0]]]
                self.check(Code(code.order, code.m, entries[:at] + entries[at + 1:]))
                self.check(Code(code.order, code.m, entries + [extra]))
                if entries:
                    self.check(Code(code.order, code.m, entries + [dice.choice(entries)]))
                    state, k, plan = dice.choice(entries)
                    bent = [list(row) for row in plan]
                    bent[dice.randrange(len(bent))] = dice.sample(range(k), dice.randint(0, k))
                    rest = [entry for entry in entries if entry[:2] != [state, k]]
                    self.check(Code(code.order, code.m, rest + [[state, k, bent]]))

    def check(self, code):
        self.assertEqual(code_fault(code), fault_by_words(code), code.entries)


def fault_by_words(code):
    """Return the first fault as [5.4] tells it, level by level."""
    reached = {(0, code.m)}
    for k in range(code.m, -1, -1):
        for state in range(code.order.n):
            covers = code.order.covers(state)
            if (state, k) not in reached or not covers:
                continue
            plans = [plan for x, left, plan in code.entries if (x, left) == (state, k)]
            if len(plans) != 1:
                return "twice" if plans else "lacking", state, k, -1
            fault = plan_fault(code.order, state, k, plans[0])
            if fault is not None:
                return fault[0], state, k, fault[1]
            reached |= {(cover, k - len(row)) for cover, row in zip(covers, plans[0])}
    spare = [entry for entry in code.entries if entry[:2] not in reached or not code.order.covers(entry[0])]
    return ("spare",) + min(spare)[:2] + (-1,) if spare else None


class DeepCodes(unittest.TestCase):
    def test_a_code_exactly_from_the_need_on(self):
        for order in form_orders() + [wide_order()]:
            need = need_of(order)
            for m in range(25):
                code = deep_code(order, m)
                self.assertIs(code is not None, m >= need)
                if code is not None:
                    self.assertIsNone(code_fault(code))
                    self.assertEqual((code.m, code.order), (m, order))

    def test_each_plan_leaves_each_cover_its_need(self):
        for order in form_orders():
            needs = need_table(order)
            for m in (needs[0], needs[0] + 2):
                code = deep_code(order, m)
                for state, k, plan in code.entries:
                    lengths = [k - needs[cover] for cover in order.covers(state)]
                    self.assertEqual(plan, plan_of_lengths(order, state, k, lengths))
                wanted = {(state, needs[state]) for state in range(1, order.n)} | {(0, m)}
                self.assertEqual(set(reached_couples(code)), wanted)

    def test_by_hand(self):
        self.assertEqual(deep_code(chain_order(1), 0).entries, ())
        self.assertEqual(deep_code(chain_order(3), 3).entries, ((0, 3, ((0, 1),)), (1, 1, ((0,),))))
        self.assertEqual(deep_code(flat_order(3), 2).entries, ((0, 2, ((0, 1), (1, 0))),))
        self.assertIsNone(deep_code(flat_order(3), 1))

    def test_24_states_and_24_frames(self):
        for order in (chain_order(24), flat_order(24), wide_order()):
            code = deep_code(order, 24)
            self.assertIsNone(code_fault(code))
            self.assertEqual(code_length(code), 24)

    def test_wrong_counts(self):
        for m in NO_COUNTS:
            self.assertEqual(raised(self, BadCount, deep_code, chain_order(2), m), {"most": 24})


class CodesFromCodes(unittest.TestCase):
    def test_widened_codes(self):
        for code in right_codes():
            for m in sorted({code.m, min(code.m + 3, 24), 24}):
                wide = widened_code(code, m)
                self.assertIsNone(code_fault(wide))
                self.assertEqual((wide.m, wide.order), (m, code.order))
                more = m - code.m
                self.assertEqual(wide.entries, tuple((state, k + more, plan) for state, k, plan in code.entries))
                self.assertEqual(code_length(wide), code_length(code))

    def test_wrong_counts(self):
        code = deep_code(chain_order(4), 5)
        for m in NO_COUNTS:
            self.assertEqual(raised(self, BadCount, widened_code, code, m), {"most": 24})
        for m in (0, 4):
            self.assertEqual(raised(self, FewFrames, widened_code, code, m), {"least": 5})
        self.assertTrue(widened_code(code, 5) == code)

    def test_codes_above_each_reached_couple(self):
        for code in right_codes():
            for state, k in reached_couples(code):
                part = code_above(code, state, k)
                upper, kept = upper_order(code.order, state)
                self.assertIsNone(code_fault(part))
                self.assertEqual((part.m, part.order), (k, upper))
                entries = {(kept[x], left, plan) for x, left, plan in part.entries}
                self.assertLessEqual(entries, set(code.entries))
                reached = {course[at] for course in courses_told(code) for at in range(len(course))
                           if (state, k) in course[:at + 1]}
                self.assertEqual({(kept[x], left) for x, left in reached_couples(part)}, reached)
            self.assertTrue(code_above(code, 0, code.m) == code)

    def test_the_code_above_by_hand(self):
        order = Order(5, [(0, 4), (4, 1), (4, 2), (1, 3)])
        code = deep_code(order, 4)
        self.assertEqual(code.entries, ((0, 4, ((0, 1),)), (1, 1, ((0,),)), (4, 2, ((0,), (1, 0)))))
        part = code_above(code, 4, 2)
        self.assertTrue(part == Code(Order(4, [(0, 1), (0, 2), (1, 3)]), 2, [(0, 2, [(0,), (1, 0)]), (1, 1, [(0,)])]))
        self.assertTrue(code_above(code, 3, 0) == Code(chain_order(1), 0, []))

    def test_couples_that_are_not_reached(self):
        code = deep_code(chain_order(3), 4)
        self.assertEqual(reached_couples(code), ((0, 4), (1, 1), (2, 0)))
        for state, k in ((0, 3), (1, 2), (2, 1), (3, 0), (-1, 4), (0, 99), (True, 1), (1, True), (2, False), (None, 1)):
            told = raised(self, NotReached, code_above, code, state, k)
            self.assertEqual(told, {"state": state, "k": k})
            self.assertIs(told["state"], state)


class CodeTexts(unittest.TestCase):
    def test_by_hand(self):
        self.assertEqual(code_text(deep_code(chain_order(3), 3)), "(code 3 ((0 3 ((0 1))) (1 1 ((0)))))")
        self.assertEqual(code_text(Code(chain_order(1), 0, [])), "(code 0 ())")

    def test_texts_lead_back(self):
        for code in right_codes():
            self.assertEqual(code_text(code), data_text(("code", code.m, code.entries)))
            read = read_code(code.order, code_text(code))
            self.assertTrue(read == code)
            entries = list(code.entries)[::-1]
            self.assertTrue(read_code(code.order, data_text(("code", code.m, entries))) == code)

    def test_bad_text(self):
        order = chain_order(3)
        for text, place in (("", 0), ("(code 3 ((0 3", 13), ("(code 01 ())", 7), ("(code 3 ()))", 11)):
            self.assertEqual(raised(self, BadText, read_code, order, text), {"place": place})

    def test_bad_shape(self):
        order = chain_order(3)
        cases = [("code", ()), ("(code 3)", ()), ("(codes 3 ())", (0,)), ("(code 25 ())", (1,)), ("(code - ())", (1,)),
                 ("(code 3 -)", (2,)), ("(code 3 (5))", (2, 0)), ("(code 3 ((0 3)))", (2, 0)), ("(code 3 ((24 3 ())))", (2, 0, 0)),
                 ("(code 3 ((0 25 ())))", (2, 0, 1)), ("(code 3 ((0 3 a)))", (2, 0, 2)), ("(code 3 ((0 3 (1))))", (2, 0, 2, 0)),
                 ("(code 3 ((0 3 ((0 24)))))", (2, 0, 2, 0, 1)), ("(code 3 ((0 3 ((0) (a)))))", (2, 0, 2, 1, 0))]
        for text, path in cases:
            self.assertEqual(raised(self, BadShape, read_code, order, text), {"path": path}, text)
        for text in ("(code 24 ((23 24 ((23)))))", "(code 24 ())"):
            raised(self, BadCode, read_code, order, text)

    def test_bad_code(self):
        order = chain_order(3)
        cases = [("(code 3 ())", "lacking", 0, 3, -1), ("(code 3 ((0 3 ((0))) (0 3 ((0)))))", "twice", 0, 3, -1),
                 ("(code 3 ((0 3 ())))", "many", 0, 3, -1), ("(code 3 ((0 3 ((3)))))", "row", 0, 3, 1),
                 ("(code 3 ((0 3 ((0 1))) (1 1 ((0))) (3 1 ())))", "spare", 3, 1, -1),
                 ("(code 3 ((0 3 ((0 1))) (23 1 ()) (1 1 ((0)))))", "spare", 23, 1, -1),
                 ("(code 3 ((0 3 ((0 1)))))", "lacking", 1, 1, -1), ("(code 0 ((0 0 ((0)))))", "row", 0, 0, 1)]
        for text, word, state, k, cover in cases:
            told = {"word": word, "state": state, "k": k, "cover": cover}
            self.assertEqual(raised(self, BadCode, read_code, order, text), told, text)
        told = {"word": "begins", "state": 0, "k": 3, "cover": 2}
        self.assertEqual(raised(self, BadCode, read_code, flat_order(3), "(code 3 ((0 3 ((0) (0 1)))))"), told)

    def test_text_comes_ahead_of_shape_and_shape_ahead_of_code(self):
        order = chain_order(3)
        self.assertEqual(raised(self, BadText, read_code, order, "(code 25 ((0 3 ())"), {"place": 18})
        self.assertEqual(raised(self, BadShape, read_code, order, "(code 3 ((0 3 ()) 5))"), {"path": (2, 1)})
