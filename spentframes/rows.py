"""Rows of unlike frames: the order in which frames came for the first time."""

from math import perm

from spentframes.errors import BadCount, BadFrames, BadPlace, BadRow
from spentframes.wholes import is_sequence, is_whole

MOST_FRAMES = 24
MOST_LISTED = 6


def check_count(m, most=24):
    """Return m, or raise BadCount if it is no whole number from 0 to the most."""
    if not is_whole(m, 0, most):
        raise BadCount(most)
    return m


def _fault_among(let, row):
    """Return None for a sequence of unlike items of those let, else -1 or the index of its first wrong item."""
    if not is_sequence(row):
        return -1
    for at, frame in enumerate(row):
        # True is found among numbers, but is no frame.
        if not is_whole(frame) or frame not in let or frame in row[:at]:
            return at
    return None


def row_fault(m, row):
    """Return None for a row over m frames, else -1 or the index of its first wrong item; m is not checked."""
    return _fault_among(list(range(m)), row)


def check_row(m, row):
    """Return a row over m frames as a tuple, or raise BadRow."""
    check_count(m)
    at = row_fault(m, row)
    if at is not None:
        raise BadRow(at)
    return tuple(row)


def count_falling(m, d):
    """Return the number of rows of length d over m frames."""
    return perm(check_count(m), check_count(d))


def count_all_rows(m):
    """Return the number of all rows over m frames."""
    check_count(m)
    return sum([perm(m, d) for d in range(m + 1)])


def row_place(m, row):
    """Return the number of rows of the same length over m frames that are less than a row."""
    row = check_row(m, row)
    left = list(range(m))
    place = 0
    for at, frame in enumerate(row):
        # Each lesser frame that is left could stand here, with any row of the others behind it.
        place += left.index(frame) * perm(m - at - 1, len(row) - at - 1)
        left.remove(frame)
    return place


def row_at(m, d, place):
    """Return the row of length d over m frames that has a place."""
    check_count(m)
    check_count(d, m)
    if not is_whole(place, 0, perm(m, d) - 1):
        raise BadPlace()
    left = list(range(m))
    row = []
    for at in range(d):
        behind = perm(m - at - 1, d - at - 1)
        row.append(left.pop(place // behind))
        place = place % behind
    return tuple(row)


def row_number(m, row):
    """Return the number of rows over m frames that stand before a row in order."""
    place = row_place(m, row)
    return place + sum([perm(m, d) for d in range(len(row))])


def row_numbered(m, number):
    """Return the row over m frames that has a number."""
    if not is_whole(number, 0, count_all_rows(m) - 1):
        raise BadPlace()
    d = 0
    while number >= perm(m, d):
        number -= perm(m, d)
        d += 1
    return row_at(m, d, number)


def all_rows(m):
    """Yield all rows over m frames in order."""
    check_count(m, MOST_LISTED)
    for d in range(m + 1):
        for place in range(perm(m, d)):
            yield row_at(m, d, place)


def begins_row(one, other):
    """Tell whether a row is equal to another one or to its first items."""
    return tuple(one) == tuple(other[:len(one)])


def rows_meet(one, other):
    """Tell whether one of two rows begins the other."""
    return begins_row(one, other) or begins_row(other, one)


def first_meeting(rows):
    """Return the least couple of indexes of rows that meet, or None."""
    for i in range(len(rows)):
        for j in range(i + 1, len(rows)):
            if rows_meet(rows[i], rows[j]):
                return i, j
    return None


def which_begins(rows, row):
    """Return the least index of a row that begins a row, or None."""
    for at, one in enumerate(rows):
        if begins_row(one, row):
            return at
    return None


def unspent_frames(m, row):
    """Return the frames of 0 to m - 1 that are not in a row, ascending."""
    row = check_row(m, row)
    return tuple([frame for frame in range(m) if frame not in row])


def _check_left(left):
    """Raise BadFrames if a thing is no ascending sequence of unlike frames."""
    if not is_sequence(left):
        raise BadFrames(-1)
    for at, frame in enumerate(left):
        if not is_whole(frame, 0, MOST_FRAMES - 1) or (at > 0 and frame <= left[at - 1]):
            raise BadFrames(at)


def spell_row(left, row):
    """Return the row of the frames that the items of a row count among those left."""
    _check_left(left)
    at = row_fault(len(left), row)
    if at is not None:
        raise BadRow(at)
    return tuple([left[item] for item in row])


def count_among(left, row):
    """Return the row of the indexes that the frames of a row have among those left."""
    _check_left(left)
    at = _fault_among(left, row)
    if at is not None:
        raise BadRow(at)
    return tuple([left.index(frame) for frame in row])


def first_time_row(frames):
    """Return the unlike items of a sequence in the order in which each of them comes first."""
    seen = {}
    for frame in frames:
        seen[frame] = True
    return tuple(seen)
