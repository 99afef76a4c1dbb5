"""[2.1] to [2.3]."""

import itertools
import random
import re
import unittest

from spentframes.datatext import check_data, data_text, read_data
from spentframes.errors import BadData, BadText
from tests.helpers import raised

NONE = r"(-|0|[1-9][0-9]{0,8}|[a-z]{1,20})"
FLAT = re.compile(rf"\(({NONE}( {NONE})*)?\)")
ALONE = re.compile(NONE)

NO_DATA = (True, False, -1, 1000000000, "", "a" * 21, "A", "a1", "a b", "\u00e9", "a\n", b"a", 1.0, {}, {1: 2}, set(),
           iter([]), object())
MIXED = (1, "a", None, (), (0, ("zz", (None, 999999999)), "abcdefghijklmnopqrst"), ((), ((),)))


def is_right(text):
    """Tell whether a string is a right text, by folding its innermost tuples again and again."""
    level, deepest = 0, 0
    for sign in text:
        level += (sign == "(") - (sign == ")")
        deepest = max(deepest, level)
    shorter = None
    while shorter != text:
        shorter, text = text, FLAT.sub("-", text)
    return deepest <= 12 and ALONE.fullmatch(text) is not None


def place_by_search(text):
    """Return the length of the longest beginning that something behind it makes a right text."""
    def can_end(start):
        return any(is_right(start + tail + ")" * k) for tail in ("", "-") for k in range(14))
    return max(length for length in range(len(text) + 1) if can_end(text[:length]))


def nested(levels, part=()):
    """Return a part within so many lists and tuples."""
    for level in range(levels):
        part = [part] if level % 2 else (part,)
    return part


def random_data(dice, levels):
    """Return any data of at most so many levels, with lists and tuples."""
    kind = dice.randrange(6 if levels else 3)
    if kind == 0:
        return dice.choice((0, 1, 9, 10, 999999999, dice.randrange(1000000000)))
    if kind == 1:
        return "".join(dice.choices("abyz", k=dice.choice((1, 2, 19, 20))))
    if kind == 2:
        return None
    parts = [random_data(dice, levels - 1) for _ in range(dice.randrange(4))]
    return parts if kind == 3 else tuple(parts)


def all_tuples(data):
    if isinstance(data, (list, tuple)):
        return tuple(all_tuples(part) for part in data)
    return data


class Data(unittest.TestCase):
    def path(self, data):
        """Return the path of the first wrong part, which both functions must tell."""
        path = raised(self, BadData, check_data, data)
        self.assertEqual(raised(self, BadData, data_text, data), path)
        return path["path"]

    def test_data_come_back_with_tuples(self):
        self.assertEqual(check_data([1, "a", None, [], [(2,), [3, [4]]]]), (1, "a", None, (), ((2,), (3, (4,)))))
        for data in (0, 999999999, "a", "z" * 20, None, (), MIXED):
            self.assertEqual(check_data(data), data)
            self.assertIs(type(check_data(data)), type(data))

    def test_what_is_passed_is_neither_changed_nor_kept(self):
        data = [1, [2, [3]]]
        checked = check_data(data)
        self.assertEqual(data, [1, [2, [3]]])
        data[1][1].append(4)
        self.assertEqual(checked, (1, (2, (3,))))

    def test_other_things_are_no_data(self):
        for thing in NO_DATA:
            self.assertEqual(self.path(thing), (), thing)
            self.assertEqual(self.path([0, thing]), (1,), thing)
            self.assertEqual(self.path((0, [None, (), thing], "B")), (1, 2), thing)

    def test_the_first_wrong_part_counts(self):
        self.assertEqual(self.path([[0, [True]], -1]), (0, 1, 0))
        self.assertEqual(self.path([1, "X", [True]]), (1,))

    def test_12_levels_are_data_and_the_13th_tuple_is_none(self):
        self.assertEqual(check_data(nested(11)), all_tuples(nested(11)))
        self.assertEqual(check_data(nested(12, "a")), all_tuples(nested(12, "a")))
        self.assertEqual(self.path(nested(12)), (0,) * 12)
        self.assertEqual(self.path(nested(12, [])), (0,) * 12)
        self.assertEqual(self.path(nested(14, True)), (0,) * 12)
        self.assertEqual(self.path((7, nested(12), True)), (1,) + (0,) * 11)

    def test_a_list_within_itself_is_no_data(self):
        data = [1]
        data.append(data)
        self.assertEqual(self.path(data), (1,) * 12)


class Texts(unittest.TestCase):
    def test_the_example(self):
        self.assertEqual(data_text((1, "a", None, ())), "(1 a - ())")
        self.assertEqual(read_data("(1 a - ())"), (1, "a", None, ()))

    def test_texts_of_single_parts(self):
        for data, text in ((0, "0"), (10, "10"), (999999999, "999999999"), ("a", "a"), ("z" * 20, "z" * 20), (None, "-"),
                           ((), "()"), ([], "()"), ([[]], "(())"), ([0], "(0)"), ([["ab", 7], None], "((ab 7) -)")):
            self.assertEqual(data_text(data), text)
            self.assertEqual(read_data(text), all_tuples(data))

    def test_texts_lead_back(self):
        dice = random.Random(1)
        for _ in range(400):
            data = random_data(dice, dice.randrange(6))
            self.assertEqual(check_data(data), all_tuples(data))
            self.assertEqual(read_data(data_text(data)), all_tuples(data))
            self.assertTrue(is_right(data_text(data)))

    def test_12_levels_are_read(self):
        data = all_tuples(nested(12, "a"))
        self.assertEqual(read_data(data_text(data)), data)
        self.assertEqual(read_data("(" * 12 + ")" * 12), all_tuples(nested(11)))

    def test_a_long_text(self):
        data = tuple((k, "a") for k in range(20000))
        self.assertEqual(read_data(data_text(data)), data)


class BentTexts(unittest.TestCase):
    def check(self, text):
        """Check a string against the search: it is read and written again, or refused at the place."""
        if is_right(text):
            self.assertEqual(data_text(read_data(text)), text)
        else:
            self.assertEqual(raised(self, BadText, read_data, text), {"place": place_by_search(text)}, text)

    def place(self, text):
        return raised(self, BadText, read_data, text)["place"]

    def test_the_examples(self):
        self.assertEqual(self.place("01"), 1)
        self.assertEqual(self.place("(a )"), 3)
        self.assertEqual(self.place("(a) b"), 3)
        self.assertEqual(self.place("1234567890"), 9)
        self.assertEqual(self.place("(1234567890)"), 10)
        self.assertEqual(self.place("a" * 21), 20)
        self.assertEqual(self.place("(0 " + "a" * 21), 23)
        self.assertEqual(self.place("(" * 13), 12)
        self.assertEqual(self.place("(a " * 13), 36)

    def test_a_text_that_ends_too_soon(self):
        for text in ("", "(", "(a", "(a ", "(0", "(()", "((", "(12 (- b", "(" * 12):
            self.assertEqual(self.place(text), len(text))
        text = data_text(MIXED)
        for length in range(len(text)):
            self.assertEqual(self.place(text[:length]), length)

    def test_signs_that_stand_nowhere(self):
        for sign in ("A", "\t", "\n", "\u0661", "\u00b2", "\u00e9", "'", "+", "[", "`", "{", "/", ":", ",", "\x00"):
            self.assertEqual(self.place(sign), 0, sign)
            self.assertEqual(self.place("(" + sign + ")"), 1, sign)
            self.assertEqual(self.place("a" + sign), 1, sign)
            self.assertEqual(self.place("(1" + sign + ")"), 2, sign)
            self.assertEqual(self.place("()" + sign), 2, sign)

    def test_all_short_strings(self):
        for length in range(5):
            for signs in itertools.product("() -01a", repeat=length):
                self.check("".join(signs))

    def test_texts_bent_at_any_sign(self):
        dice = random.Random(2)
        text = data_text((10, ("ab", None, ()), ((0, "c"), 205)))
        for at in range(len(text) + 1):
            for sign in "() -09az":
                self.check(text[:at] + sign + text[at:])
                self.check(text[:at] + sign + text[at + 1:])
            self.check(text[:at] + text[at + 1:])
        for _ in range(300):
            text = data_text(random_data(dice, 4))
            at = dice.randrange(len(text) + 1)
            self.check(text[:at] + dice.choice("() -09az") + text[at + dice.randrange(2):])

    def test_long_numbers_and_words_and_deep_tuples_at_the_bounds(self):
        for text in ("9" * 9, "9" * 10, "0" * 9, "a" * 20, "a" * 21, "(" * 12 + ")" * 12, "(" * 13 + ")" * 13,
                     "(" * 11 + "a ()" + ")" * 11, "(" * 12 + "a ()" + ")" * 12, "a" * 20 + "1", "1" * 9 + "a"):
            self.check(text)
