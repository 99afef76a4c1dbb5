"""Dealing rows of given lengths so that none of them begins another one."""

from math import factorial, perm

from spentframes.errors import BadLengths, BadTaken
from spentframes.rows import begins_row, check_count, row_fault, rows_meet
from spentframes.wholes import is_sequence, is_whole

MOST_ITEMS = 64


def _meets_any(rows, row):
    """Tell whether a row meets one of several rows."""
    return any([rows_meet(one, row) for one in rows])


def _check_lengths(k, lengths):
    """Raise BadLengths if a thing is no sequence of lengths of rows over k frames."""
    if not is_sequence(lengths) or len(lengths) > MOST_ITEMS:
        raise BadLengths(-1)
    for at, length in enumerate(lengths):
        if not is_whole(length, 0, k):
            raise BadLengths(at)


def _check_taken(k, taken):
    """Return taken rows as tuples, or raise BadTaken if a thing is no sequence of rows that do not meet."""
    if not is_sequence(taken) or len(taken) > MOST_ITEMS:
        raise BadTaken(-1)
    rows = []
    for at, row in enumerate(taken):
        if row_fault(k, row) is not None or _meets_any(rows, row):
            raise BadTaken(at)
        rows.append(tuple(row))
    return rows


def _count_free(k, d, begun, rows):
    """Return the number of free rows of length d that begin with one row of length `begun`.

    The rows are the taken ones that begin with this row; no other taken one meets it.
    """
    free = perm(k - begun, d - begun)
    heads = set()
    for row in rows:
        if len(row) <= d:
            free -= perm(k - len(row), d - len(row))
        else:
            # Several taken rows may go on from one row of length d, which is lost only once.
            heads.add(row[:d])
    return free - len(heads)


def free_rows(k, d, taken):
    """Return the number of rows of length d over k frames that meet no taken row."""
    check_count(k)
    check_count(d, k)
    return _count_free(k, d, 0, _check_taken(k, taken))


def _weight(k, lengths):
    """Return the number of full rows over k frames that begin with rows of these lengths."""
    return sum([factorial(k - length) for length in lengths])


def is_full(k, taken):
    """Tell whether each full row over k frames begins with a taken row."""
    check_count(k)
    return _weight(k, [len(row) for row in _check_taken(k, taken)]) == factorial(k)


def weight_of(k, lengths):
    """Return the sum of the weights of lengths."""
    check_count(k)
    _check_lengths(k, lengths)
    return _weight(k, lengths)


def lengths_fit(k, lengths):
    """Tell whether rows of these lengths over k frames can be dealt, with none taken before."""
    return weight_of(k, lengths) <= factorial(k)


def _least_behind(k, d, row, left, taken):
    """Return the least free row of length d that begins with a row, or None.

    The frames left are those that are not in the row; the taken rows are those that begin with it.
    """
    if _count_free(k, d, len(row), taken) < 1:
        return None
    if len(row) == d:
        return row
    for frame in left:
        longer = row + (frame,)
        others = [other for other in left if other != frame]
        found = _least_behind(k, d, longer, others, [one for one in taken if begins_row(longer, one)])
        if found is not None:
            return found
    return None


def deal_by_length(k, lengths, taken):
    """Return the dealing that `deal_rows` tells, or None; nothing is checked."""
    rows = list(taken)
    dealt = {}
    for length, at in sorted([(length, at) for at, length in enumerate(lengths)]):
        row = _least_behind(k, length, (), list(range(k)), rows)
        if row is None:
            return None
        rows.append(row)
        dealt[at] = row
    return tuple([dealt[at] for at in range(len(lengths))])


def deal_rows(k, lengths, taken=()):
    """Return a dealing of lengths beside taken rows, or None if there is none at all."""
    check_count(k)
    _check_lengths(k, lengths)
    return deal_by_length(k, lengths, _check_taken(k, taken))


def deal_shortage(k, lengths, taken=()):
    """Return None, or (d, wanted, free) for the least length at which there are too few free rows."""
    check_count(k)
    _check_lengths(k, lengths)
    rows = _check_taken(k, taken)
    for d in range(k + 1):
        wanted = sum([perm(k - length, d - length) for length in lengths if length <= d])
        free = _count_free(k, d, 0, rows)
        if wanted > free:
            return d, wanted, free
    return None


def dealing_fault(k, lengths, rows, taken=()):
    """Return None if rows are a dealing of lengths beside taken rows, else (word, at)."""
    check_count(k)
    _check_lengths(k, lengths)
    others = _check_taken(k, taken)
    if not is_sequence(rows) or len(rows) != len(lengths):
        return "many", -1
    for at, row in enumerate(rows):
        if row_fault(k, row) is not None:
            return "row", at
        if len(row) != lengths[at]:
            return "length", at
        if _meets_any(others, row):
            return "begins", at
        others.append(tuple(row))
    return None
