"""[14.7], [14.8]."""

import itertools
import random
import unittest

from spentframes.errors import BadCount, BadDigits, BadWord
from spentframes.streams import (
    StreamSink, StreamSource, check_word, count_words, digits_to_word, word_to_digits)
from tests.helpers import raised

NO_SEQUENCES = (None, "01", {}, {0: 1}, 5)
NO_WHOLES = (True, False, None, "1", 1.0, (1,))


def is_word(m, word):
    return all(frame in range(m) for frame in word) and word[:1] != (m - 1,) and all(a != b for a, b in zip(word, word[1:]))


class Words(unittest.TestCase):
    def test_all_words(self):
        for m in range(2, 7):
            for d in range(5 if m < 5 else 4):
                tuples = list(itertools.product(range(m), repeat=d))
                words = [word for word in tuples if is_word(m, word)]
                self.assertEqual(count_words(m, d), len(words))
                told = [digits_to_word(m, digits) for digits in itertools.product(range(m - 1), repeat=d)]
                self.assertEqual(sorted(told), words)
                for word in tuples:
                    if is_word(m, word):
                        self.assertEqual(check_word(m, list(word)), word)
                        self.assertEqual(digits_to_word(m, word_to_digits(m, list(word))), word)
                    else:
                        at = next(k for k in range(d) if not is_word(m, word[:k + 1]))
                        for call in (check_word, word_to_digits):
                            self.assertEqual(raised(self, BadWord, call, m, word), {"at": at})

    def test_by_hand(self):
        self.assertEqual(digits_to_word(3, [1, 1, 0, 0]), (1, 2, 0, 1))
        self.assertEqual(word_to_digits(3, (1, 2, 0, 1)), (1, 1, 0, 0))
        self.assertEqual(digits_to_word(2, [0] * 5), (0, 1, 0, 1, 0))
        self.assertEqual((digits_to_word(6, ()), word_to_digits(6, []), check_word(2, ())), ((), (), ()))

    def test_long_words(self):
        self.assertEqual([count_words(m, 64) for m in range(2, 7)], [1, 2 ** 64, 3 ** 64, 4 ** 64, 5 ** 64])
        self.assertEqual([count_words(m, 0) for m in range(2, 7)], [1] * 5)
        for m in range(2, 7):
            digits = tuple(random.Random(m).choices(range(m - 1), k=64))
            self.assertEqual(word_to_digits(m, digits_to_word(m, digits)), digits)
            self.assertEqual(len(check_word(m, digits_to_word(m, digits * 50))), 3200)

    def test_errors_in_their_order(self):
        for m in (1, 7, 0, -1, True, None, "3", 3.0):
            for call in (check_word, digits_to_word, word_to_digits):
                self.assertEqual(raised(self, BadCount, call, m, None), {"most": 6})
            self.assertEqual(raised(self, BadCount, count_words, m, 99), {"most": 6})
        for d in (-1, 65, True, None, "1", 1.0):
            self.assertEqual(raised(self, BadCount, count_words, 3, d), {"most": 64})
        for thing in NO_SEQUENCES:
            self.assertEqual(raised(self, BadWord, check_word, 3, thing), {"at": -1})
            self.assertEqual(raised(self, BadWord, word_to_digits, 3, thing), {"at": -1})
            self.assertEqual(raised(self, BadDigits, digits_to_word, 3, thing), {"at": -1})
        for thing in NO_WHOLES + (3, -1):
            self.assertEqual(raised(self, BadWord, check_word, 3, [0, thing, 9]), {"at": 1})
            self.assertEqual(raised(self, BadWord, word_to_digits, 3, [0, thing, 9]), {"at": 1})
        for thing in NO_WHOLES + (2, -1):
            self.assertEqual(raised(self, BadDigits, digits_to_word, 3, [1, thing, 9]), {"at": 1})

    def test_what_is_passed_stays_as_it_was(self):
        digits, word = [1, 1, 0], [1, 2, 0]
        digits_to_word(3, digits)
        check_word(3, word)
        self.assertEqual((digits, word), ([1, 1, 0], [1, 2, 0]))


class Sources(unittest.TestCase):
    def test_step_by_step(self):
        source = StreamSource(3, [1, 1])
        self.assertEqual((source.frame, source.digits, source.told), (1, (1, 1), 0))
        for frame in (0, 2, None, True, "1", (1,), -1, 9):
            self.assertIsNone(source.hear(frame))
            self.assertEqual((source.frame, source.told), (1, 0))
        self.assertIsNone(source.hear(1))
        self.assertEqual((source.frame, source.told), (2, 1))
        source.hear(1)
        self.assertEqual((source.frame, source.told), (2, 1))
        source.hear(2)
        self.assertEqual((source.frame, source.told), (2, 2))
        source.hear(2)
        self.assertEqual((source.frame, source.told), (2, 2))
        self.assertIsNone(source.put([0, 1]))
        self.assertEqual((source.frame, source.digits, source.told), (0, (1, 1, 0, 1), 2))
        source.hear(2)
        self.assertEqual((source.frame, source.told), (0, 2))

    def test_no_digits(self):
        source = StreamSource(6)
        self.assertEqual((source.frame, source.digits, source.told), (None, (), 0))
        source.put(())
        for frame in (None, 0, 5):
            source.hear(frame)
        self.assertEqual((source.frame, source.digits, source.told), (None, (), 0))
        source.put((4,))
        self.assertEqual((source.frame, source.digits, source.told), (4, (4,), 0))

    def test_the_frame_is_the_newest_of_its_word(self):
        for seed in range(60):
            dice = random.Random(seed)
            m = dice.randint(3, 6)
            source = StreamSource(m, dice.choices(range(m - 1), k=dice.randint(0, 3)))
            for _ in range(40):
                if dice.random() < 0.2:
                    source.put(dice.choices(range(m - 1), k=dice.randint(0, 2)))
                told = source.told
                heard = dice.choice([source.frame, dice.randrange(m)])
                before = (source.frame, len(source.digits))
                source.hear(heard)
                self.assertEqual(source.told, told + (heard is not None and heard == before[0] and told < before[1]))
                word = digits_to_word(m, source.digits[:source.told + 1])
                self.assertEqual(source.frame, word[-1] if word else None)

    def test_errors(self):
        for m in (2, 7, True, None, "3"):
            self.assertEqual(raised(self, BadCount, StreamSource, m, None), {"most": 6})
            self.assertEqual(raised(self, BadCount, StreamSink, m), {"most": 6})
        for digits, at in (([0, 2], 1), ([True], 0), ("01", -1), (None, -1), ([0, 1, None, 5], 2), ([-1], 0)):
            self.assertEqual(raised(self, BadDigits, StreamSource, 3, digits), {"at": at})
            source = StreamSource(3, [1])
            source.hear(1)
            self.assertEqual(raised(self, BadDigits, source.put, digits), {"at": at})
            self.assertEqual((source.frame, source.digits, source.told), (1, (1,), 1))

    def test_what_is_put_is_not_kept(self):
        digits = [1, 0]
        source = StreamSource(3, digits)
        digits[1] = 1
        self.assertEqual((source.digits, type(source.digits)), ((1, 0), tuple))


class Sinks(unittest.TestCase):
    def test_step_by_step(self):
        sink = StreamSink(3)
        self.assertEqual((sink.frame, sink.digits), (None, ()))
        for frame in (2, 3, -1, None, True, False, "0", (0,)):
            self.assertIsNone(sink.hear(frame))
            self.assertEqual((sink.frame, sink.digits), (None, ()))
        for frame, digits in ((1, (1,)), (1, (1,)), (2, (1, 1)), (True, (1, 1)), (0, (1, 1, 0)), (2, (1, 1, 0, 1))):
            self.assertIsNone(sink.hear(frame))
            self.assertEqual(sink.digits, digits)
        self.assertEqual(sink.frame, 2)


class Lines(unittest.TestCase):
    """Ordered links both ways: frames come late, again or not at all, but in their order."""

    def test_a_beginning_always_and_all_at_last(self):
        for seed in range(120):
            dice = random.Random(seed)
            m = dice.randint(3, 6)
            digits = dice.choices(range(m - 1), k=dice.choice([0, 1, 30]))
            source, sink = StreamSource(m, digits[:2]), StreamSink(m)
            left, lines = digits[2:], ([], [])
            read = [0, 0]
            for step in range(3000):
                for line, frame in zip(lines, (source.frame, sink.frame)):
                    if frame is not None and (not line or line[-1] != frame):
                        line.append(frame)
                way = dice.randrange(2)
                if lines[way]:
                    read[way] = dice.choice([read[way], dice.randrange(read[way], len(lines[way])), len(lines[way]) - 1])
                    (sink, source)[way].hear(lines[way][read[way]])
                if left and dice.random() < 0.1:
                    source.put(left[:1])
                    left = left[1:]
                self.assertEqual(sink.digits, source.digits[:len(sink.digits)])
                self.assertIn(len(sink.digits), (source.told, source.told + 1))
            self.assertEqual((sink.digits, source.told), (tuple(digits), len(digits)))


if __name__ == "__main__":
    unittest.main()
