"""Streams: words of frames in which no two neighbours are equal, and digits told by them over an ordered link."""

from spentframes.errors import BadCount, BadDigits, BadWord
from spentframes.nets import MOST_LINK_FRAMES
from spentframes.rows import check_count
from spentframes.wholes import is_sequence, is_whole

LEAST_WORD_FRAMES = 2
LEAST_STREAM_FRAMES = 3
MOST_WORD = 64


def _check_frames(m, least):
    """Raise BadCount if m is no number of frames from the least on."""
    if not is_whole(m, least, MOST_LINK_FRAMES):
        raise BadCount(MOST_LINK_FRAMES)


def count_words(m, d):
    """Return the number of words of length d over m frames."""
    _check_frames(m, LEAST_WORD_FRAMES)
    check_count(d, MOST_WORD)
    many = 1
    for _ in range(d):
        many = many * (m - 1)
    return many


def can_follow(m, before, frame):
    """Tell whether a thing is a frame that can stand in a word behind a frame, or first behind None."""
    return is_whole(frame, 0, m - 1) and frame != (m - 1 if before is None else before)


def check_word(m, word):
    """Return a word over m frames as a tuple, or raise BadWord."""
    _check_frames(m, LEAST_WORD_FRAMES)
    if not is_sequence(word):
        raise BadWord(-1)
    for at, frame in enumerate(word):
        if not can_follow(m, word[at - 1] if at > 0 else None, frame):
            raise BadWord(at)
    return tuple(word)


def frame_behind(m, before, digit):
    """Return the frame that tells a digit behind a frame, or first behind None."""
    other = m - 1 if before is None else before
    return digit if digit < other else digit + 1


def digit_behind(m, before, frame):
    """Return the digit that a frame tells behind a frame, or first behind None."""
    other = m - 1 if before is None else before
    return frame if frame < other else frame - 1


def _check_digits(m, digits):
    """Raise BadDigits if a thing is no sequence of digits that frames of m can tell."""
    if not is_sequence(digits):
        raise BadDigits(-1)
    for at, digit in enumerate(digits):
        if not is_whole(digit, 0, m - 2):
            raise BadDigits(at)


def digits_to_word(m, digits):
    """Return the word over m frames that tells digits."""
    _check_frames(m, LEAST_WORD_FRAMES)
    _check_digits(m, digits)
    word = []
    for digit in digits:
        word.append(frame_behind(m, word[-1] if word else None, digit))
    return tuple(word)


def word_to_digits(m, word):
    """Return the digits that a word over m frames tells."""
    frames = check_word(m, word)
    return tuple([digit_behind(m, frames[at - 1] if at > 0 else None, frame) for at, frame in enumerate(frames)])


class StreamSource:
    """An end that tells digits one by one; each is told when its frame comes back."""

    def __init__(self, m, digits=()):
        _check_frames(m, LEAST_STREAM_FRAMES)
        _check_digits(m, digits)
        self._m = m
        self.frame = None
        self.digits = ()
        self.told = 0
        self.put(digits)

    def put(self, digits):
        """Take more digits."""
        _check_digits(self._m, digits)
        is_idle = self.told == len(self.digits)
        self.digits = self.digits + tuple(digits)
        if is_idle:
            self._send_next()

    def _send_next(self):
        """Send the frame of the next digit, if there is one."""
        if self.told < len(self.digits):
            self.frame = frame_behind(self._m, self.frame, self.digits[self.told])

    def hear(self, frame):
        """Take a frame that comes back."""
        if self.told < len(self.digits) and is_whole(frame) and frame == self.frame:
            self.told += 1
            self._send_next()


class StreamSink:
    """An end that reads digits one by one, and sends each frame back."""

    def __init__(self, m):
        _check_frames(m, LEAST_STREAM_FRAMES)
        self._m = m
        self.frame = None
        self.digits = ()

    def hear(self, frame):
        """Read a frame."""
        if can_follow(self._m, self.frame, frame):
            self.digits = self.digits + (digit_behind(self._m, self.frame, frame),)
            self.frame = frame
