"""[2.4] and [2.5]."""

import unittest

from spentframes.errors import BadShape, BadText
from spentframes.shapes import check_shape, fits_shape, read_shaped, shape_fault
from tests.helpers import raised

DIGIT = ("whole", 0, 9)
PAIR = ("parts", DIGIT, DIGIT)


class Shapes(unittest.TestCase):
    def fits(self, shape, *things):
        for data in things:
            self.assertIsNone(shape_fault(data, shape), data)
            self.assertIs(fits_shape(data, shape), True)
            self.assertIs(check_shape(data, shape), data)

    def fails(self, shape, path, *things):
        for data in things:
            self.assertEqual(shape_fault(data, shape), path, data)
            self.assertIs(type(shape_fault(data, shape)), tuple)
            self.assertIs(fits_shape(data, shape), False)
            self.assertEqual(raised(self, BadShape, check_shape, data, shape), {"path": path})

    def test_whole(self):
        self.fits(("whole", 3, 5), 3, 4, 5)
        self.fails(("whole", 3, 5), (), 2, 6, "a", None, (), (4,), True)
        self.fails(("whole", 0, 1), (), True, False)

    def test_word(self):
        self.fits(("word",), "a", "whole", "z" * 20)
        self.fails(("word",), (), 0, None, (), ("a",))

    def test_the_word(self):
        self.fits(("the", "net"), "net")
        self.fails(("the", "net"), (), "nets", "ne", 0, None, (), ("net",))

    def test_row(self):
        self.fits(("row", DIGIT), (), (0,), (1, 2, 3))
        self.fails(("row", DIGIT), (), 0, "a", None)
        self.fails(("row", DIGIT), (0,), (None,), ((), 10), ((1,),))
        self.fails(("row", DIGIT), (2,), (0, 1, 10, 11), (0, 1, "a"))

    def test_parts(self):
        self.fits(PAIR, (0, 9))
        self.fits(("parts",), ())
        self.fails(("parts",), (), (0,), None, 0)
        self.fails(PAIR, (), (), (0,), (0, 1, 2), ("a",), 0, "ab", None)
        self.fails(PAIR, (0,), (10, 0), ("a", "b"), ((), ()))
        self.fails(PAIR, (1,), (0, 10), (0, None))

    def test_a_wrong_number_of_parts_comes_ahead_of_the_parts(self):
        self.fails(("row", PAIR), (1,), ((0, 0), (10, 0, 0), None))
        self.fails(("row", PAIR), (1, 0), ((0, 0), (10, 0), None))

    def test_maybe(self):
        shape = ("maybe", PAIR)
        self.fits(shape, None, (1, 2))
        self.fails(shape, (), 0, "a", (1,))
        self.fails(shape, (1,), (1, None))
        self.fails(("row", shape), (1, 0), (None, ("a", 1)))
        self.fits(("maybe", ("maybe", DIGIT)), None, 3)

    def test_either(self):
        shape = ("either", DIGIT, ("the", "a"), PAIR)
        self.fits(shape, 3, "a", (1, 2))
        self.fails(shape, (), 10, "b", None, (), (1,), (1, 10), (10, 1))
        self.fails(("row", shape), (2,), (1, (2, 3), (2, "b"), "b"))
        self.fits(("either", PAIR), (1, 1))
        self.fails(("either", PAIR), (), (1, 10))

    def test_all_kinds_within_one_another(self):
        shape = ("parts", ("the", "list"), ("row", ("either", ("parts", ("word",), ("maybe", ("row", PAIR))), DIGIT)))
        self.fits(shape, ("list", ()), ("list", (1, ("a", None), ("b", ()), ("c", ((1, 2), (3, 4))))))
        self.fails(shape, (0,), ("lists", None))
        self.fails(shape, (1,), ("list", 5))
        self.fails(shape, (1, 1), ("list", (1, ("c", ((1, 2), (3, 10))), 10)))
        deep = ("row", ("parts", DIGIT, ("maybe", ("row", ("parts", ("word",), ("the", "x"))))))
        self.fits(deep, ((1, None), (2, (("b", "x"),))))
        self.fails(deep, (1, 1, 1, 1), ((1, None), (2, (("b", "x"), ("c", "y"))), 7))
        self.fails(deep, (1, 1, 1, 0), ((1, None), (2, (("b", "x"), (0, "y"))), 7))
        self.fails(deep, (1, 1, 1), ((1, None), (2, (("b", "x"), (0, "y", 0))), 7))
        self.fails(deep, (1, 1), ((1, None), (2, "x"), 7))

    def test_read_shaped(self):
        self.assertEqual(read_shaped("((1 2) (3 4))", ("row", PAIR)), ((1, 2), (3, 4)))
        self.assertEqual(raised(self, BadShape, read_shaped, "((1 2) (3 10))", ("row", PAIR)), {"path": (1, 1)})
        self.assertEqual(raised(self, BadShape, read_shaped, "-", ("row", PAIR)), {"path": ()})

    def test_bad_text_comes_ahead_of_bad_shape(self):
        self.assertEqual(raised(self, BadText, read_shaped, "(a (3 10) ", ("row", PAIR)), {"place": 10})
        self.assertEqual(raised(self, BadText, read_shaped, "01", ("word",)), {"place": 1})
