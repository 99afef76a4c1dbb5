"""[6.2] to [6.5]."""

import unittest

from spentframes.codes import Code, deep_code
from spentframes.coursing import (
    Place, course_row, each_row, next_frames, read_place, route_between, shown_state, told_course)
from spentframes.errors import BadCount, BadCourse, BadRow
from spentframes.makers import chain_order, flat_order
from spentframes.needs import need_of
from spentframes.orders import Order
from spentframes.quick import quick_code
from spentframes.rows import all_rows
from tests.helpers import all_courses, form_orders, raised, right_codes, rows_told, wide_order

READERS = (read_place, told_course, shown_state, next_frames)


def small_codes(most):
    return [code for code in right_codes() if code.m <= most]


def branched():
    """Return a code of four frames: 0 is told on to 1 by 0 1, to 2 by 1; 1 on to 3 by the lesser frame left."""
    order = Order(4, [(0, 1), (0, 2), (1, 3), (2, 3)])
    return Code(order, 4, [(0, 4, [(0, 1), (1,)]), (1, 2, [(0,)]), (2, 3, [(2, 0)])])


def begins(one, other):
    return other[:len(one)] == one


class Routes(unittest.TestCase):
    def test_least_covers_first(self):
        order = Order(6, [(0, 1), (0, 2), (1, 3), (1, 4), (2, 4), (2, 5), (1, 5)])
        self.assertEqual(route_between(order, 0, 4), (0, 1, 4))
        self.assertEqual(route_between(order, 0, 5), (0, 1, 5))
        self.assertEqual(route_between(order, 2, 5), (2, 5))
        self.assertEqual(route_between(order, 0, 2), (0, 2))
        self.assertIsNone(route_between(order, 2, 3))
        self.assertIsNone(route_between(order, 4, 0))
        self.assertEqual(route_between(order, 5, 5), (5,))

    def test_numbers_may_fall_along_a_route(self):
        order = Order(5, [(0, 4), (4, 1), (0, 2), (2, 3), (4, 3), (0, 3)])
        self.assertEqual(route_between(order, 0, 1), (0, 4, 1))
        self.assertEqual(route_between(order, 0, 3), (0, 2, 3))
        self.assertEqual(route_between(chain_order(24), 0, 23), tuple(range(24)))
        self.assertEqual(route_between(chain_order(1), 0, 0), (0,))

    def test_of_all_courses_the_least_one(self):
        for order in form_orders():
            for low in range(order.n):
                for high in range(order.n):
                    courses = [course[:course.index(high) + 1] for course in order.each_course(low) if high in course]
                    route = route_between(order, low, high)
                    self.assertEqual(route, min(courses) if courses else None)
                    self.assertIs(type(route), tuple if courses else type(None))


class CourseRows(unittest.TestCase):
    def test_by_hand(self):
        code = branched()
        rows = {(0,): (), (0, 1): (0, 1), (0, 1, 3): (0, 1, 2), (0, 2): (1,), (0, 2, 3): (1, 3, 0)}
        for course, row in rows.items():
            self.assertEqual(course_row(code, course), row)
            self.assertEqual(course_row(code, list(course)), row)
        self.assertEqual(course_row(Code(chain_order(1), 0, ()), (0,)), ())

    def test_pieces_are_spelled_among_the_frames_left(self):
        for code in right_codes():
            for course, row in rows_told(code).items():
                self.assertEqual(course_row(code, course), row)
                self.assertEqual(len(set(row)), len(row))

    def test_a_row_begins_another_exactly_if_its_course_does(self):
        for code in right_codes():
            rows = rows_told(code)
            if len(rows) > 60:
                continue
            for one in rows:
                for other in rows:
                    told = begins(course_row(code, one), course_row(code, other))
                    self.assertEqual(told, begins(one, other), (one, other))

    def test_24_frames(self):
        for order in (chain_order(24), wide_order()):
            code = quick_code(order, 24)
            course = list(order.each_course(0))[-1]
            self.assertEqual(told_course(code, course_row(code, course)), course)
            self.assertEqual(len(course_row(deep_code(order, 24), course)), 24)

    def test_no_courses(self):
        code = branched()
        cases = [(None, -1), ("0", -1), ({0: 0}, -1), ((), -1), ([], -1), (0, -1), ((1,), 0), ((-1,), 0), ((False,), 0),
                 (("0",), 0), ((4,), 0), ((1, 3), 0), ((0, 0), 1), ((0, 3), 1), ((0, True), 1), ((0, 4), 1), ((0, None), 1),
                 ((0, (1,)), 1), ((0, 1, 2), 2), ((0, 1, 3, 3), 3), ((0, 2, 3, 1), 3), ((0, 3, 9), 1), ((None, 9), 0),
                 ((0, -1), 1), ((0, -3), 1)]
        for course, at in cases:
            self.assertEqual(raised(self, BadCourse, course_row, code, course), {"at": at}, course)

    def test_a_course_stays_as_it_was(self):
        course = [0, 1, 3]
        course_row(branched(), course)
        self.assertEqual(course, [0, 1, 3])


def place_by_definition(code, rows, row):
    """Return what [6.4] tells of a row, by the rows of all courses."""
    course = max((course for course in rows if begins(rows[course], row)), key=len)
    unspent = tuple(frame for frame in range(code.m) if frame not in rows[course])
    begun = row[len(rows[course]):]
    follows = not begun or any(begins(row, rows[longer]) for longer in rows if longer[:-1] == course)
    return course, unspent, begun, follows


class Reading(unittest.TestCase):
    def test_every_row_over_few_frames(self):
        for code in small_codes(4):
            rows = rows_told(code)
            following = {row[:k] for row in rows.values() for k in range(len(row) + 1)}
            for row in all_rows(code.m):
                course, unspent, begun, follows = place_by_definition(code, rows, row)
                place = read_place(code, list(row))
                self.assertEqual((place.state, place.unspent, place.begun), (course[-1], unspent, begun))
                self.assertIs(place.follows, follows)
                self.assertIs(follows, row in following)
                self.assertEqual(told_course(code, row), course)
                self.assertEqual(shown_state(code, row), course[-1])
                nexts = tuple(f for f in range(code.m) if f not in row and row + (f,) in following)
                self.assertEqual(next_frames(code, row), nexts if follows else ())

    def test_by_hand(self):
        code = branched()
        self.assertTrue(read_place(code, ()) == Place(0, (0, 1, 2, 3), (), True))
        self.assertTrue(read_place(code, (0,)) == Place(0, (0, 1, 2, 3), (0,), True))
        self.assertTrue(read_place(code, (0, 1)) == Place(1, (2, 3), (), True))
        self.assertTrue(read_place(code, (0, 2)) == Place(0, (0, 1, 2, 3), (0, 2), False))
        self.assertTrue(read_place(code, (0, 1, 3)) == Place(1, (2, 3), (3,), False))
        self.assertTrue(read_place(code, (0, 1, 2, 3)) == Place(3, (3,), (3,), False))
        self.assertTrue(read_place(code, [1, 3]) == Place(2, (0, 2, 3), (3,), True))
        self.assertEqual([next_frames(code, row) for row in ((), (0,), (0, 1), (1,), (1, 3), (2,), (0, 1, 2))],
                         [(0, 1), (1,), (2,), (3,), (0,), (), ()])
        self.assertEqual(told_course(code, (1, 3, 0, 2)), (0, 2, 3))

    def test_a_row_that_no_longer_follows_keeps_its_state(self):
        for code in small_codes(4):
            for row in all_rows(code.m):
                if not read_place(code, row).follows:
                    for frame in set(range(code.m)) - set(row):
                        self.assertEqual(told_course(code, row + (frame,)), told_course(code, row))

    def test_no_frames_and_24_frames(self):
        alone = Code(chain_order(1), 0, ())
        self.assertTrue(read_place(alone, ()) == Place(0, (), (), True))
        self.assertEqual(next_frames(alone, ()), ())
        self.assertEqual(raised(self, BadRow, read_place, alone, (0,)), {"at": 0})
        code = quick_code(flat_order(24), 24)
        self.assertEqual(next_frames(code, ()), tuple(sorted(row[0] for row in code.plan_at(0, 24))))
        self.assertEqual(shown_state(code, tuple(range(24))), 1 + code.plan_at(0, 24).index((0,)))
        self.assertTrue(read_place(Code(chain_order(1), 24, ()), (5, 3)).begun == (5, 3))

    def test_wrong_rows(self):
        code = branched()
        cases = [(None, -1), ("01", -1), ({0: 1}, -1), (3, -1), ((4,), 0), ((-1,), 0), ((0, 0), 1), ((0, True), 1),
                 ((False,), 0), (("0",), 0), ((0, 1, 2, 3, 0), 4), ((1, 9, 1), 1), ((3, None), 1), ((1.0,), 0)]
        for call in READERS:
            for row, at in cases:
                self.assertEqual(raised(self, BadRow, call, code, row), {"at": at}, row)

    def test_what_is_passed_stays_as_it_was(self):
        row = [1, 3]
        for call in READERS:
            call(branched(), row)
        self.assertEqual(row, [1, 3])


class Places(unittest.TestCase):
    def test_attributes(self):
        begun, unspent = [3], [0, 2, 3]
        place = Place(2, unspent, begun, True)
        begun.append(0)
        unspent.clear()
        self.assertEqual((place.state, place.unspent, place.begun, place.follows), (2, (0, 2, 3), (3,), True))
        self.assertEqual({type(place.unspent), type(place.begun)}, {tuple})
        self.assertEqual(set("state unspent begun follows".split()) - set(vars(place)), set())

    def test_equal_by_all_four(self):
        place = Place(2, (0, 2), (3,), True)
        self.assertTrue(place == Place(2, [0, 2], [3], True))
        self.assertFalse(place != Place(2, [0, 2], [3], True))
        for other in (Place(1, (0, 2), (3,), True), Place(2, (0, 1), (3,), True), Place(2, (0, 2), (), True),
                      Place(2, (0, 2), (3,), False), (2, (0, 2), (3,), True), None, branched()):
            self.assertFalse(place == other)

    def test_it_checks_nothing(self):
        self.assertEqual(Place(-7, (), ("a", None), None).begun, ("a", None))


class EachRow(unittest.TestCase):
    def test_the_beginnings_of_the_rows_of_all_courses(self):
        for code in small_codes(6):
            following = {row[:k] for row in rows_told(code).values() for k in range(len(row) + 1)}
            self.assertEqual(list(each_row(code)), sorted(following))
            self.assertTrue(all(read_place(code, row).follows for row in following))

    def test_by_hand(self):
        self.assertEqual(list(each_row(branched())), [(), (0,), (0, 1), (0, 1, 2), (1,), (1, 3), (1, 3, 0)])
        self.assertEqual(list(each_row(Code(chain_order(1), 0, ()))), [()])
        self.assertEqual(list(each_row(Code(chain_order(1), 6, ()))), [()])

    def test_six_frames_and_seven(self):
        for order in form_orders():
            if need_of(order) <= 6:
                self.assertIn((), list(each_row(quick_code(order, 6))))
                for m in (7, 24):
                    code = quick_code(order, m)
                    self.assertEqual(raised(self, BadCount, lambda: list(each_row(code))), {"most": 6})
        self.assertEqual(raised(self, BadCount, lambda: list(each_row(Code(chain_order(1), 7, ())))), {"most": 6})


class AllCourses(unittest.TestCase):
    def test_beginnings_of_courses_are_courses(self):
        self.assertEqual(all_courses(branched().order), [(0,), (0, 1), (0, 1, 3), (0, 2), (0, 2, 3)])
