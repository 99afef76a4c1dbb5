"""Quick codes: right codes whose courses spend the fewest frames."""

from spentframes.codes import Code
from spentframes.dealing import lengths_fit
from spentframes.orders import ends_first
from spentframes.plans import plan_of_lengths
from spentframes.rows import check_count


def _greatest_length(fewest, k, most):
    """Return the greatest length of a row behind which a cover spends at most so many frames in all, or None.

    What the cover spends at least with 0, 1, .. unspent frames stands in `fewest`.
    """
    for length in range(min(k, most), 0, -1):
        left = fewest[k - length]
        if left is not None and length + left <= most:
            return length
    return None


def _lengths_within(order, table, state, k, most):
    """Return the greatest lengths with which each cover of a state spends at most so many frames.

    None if a cover has no such length or the lengths do not fit.
    """
    lengths = [_greatest_length(table[cover], k, most) for cover in order.covers(state)]
    if None in lengths or not lengths_fit(k, lengths):
        return None
    return lengths


def _fewest_of(order, table, state, k):
    """Return the fewest frames of a couple, None if there is no right code; the table tells those of the covers."""
    if not order.covers(state):
        return 0
    for most in range(1, k + 1):
        if _lengths_within(order, table, state, k, most) is not None:
            return most
    return None


def fewest_table(order, m):
    """Return for each state the fewest frames that a right code spends from it, with 0 to m frames unspent."""
    check_count(m)
    table = [()] * order.n
    for state in ends_first(order):
        table[state] = tuple([_fewest_of(order, table, state, k) for k in range(m + 1)])
    return tuple(table)


def fewest_frames(order, m):
    """Return the fewest frames that a right code for m frames spends, or None if there is no such code."""
    return fewest_table(order, m)[0][m]


def quick_code(order, m):
    """Return a right code for m frames that spends the fewest of them, or None if there is no right code."""
    table = fewest_table(order, m)
    if table[0][m] is None:
        return None
    entries = []
    seen = set()
    waiting = [(0, m)]
    while waiting:
        state, k = waiting.pop()
        covers = order.covers(state)
        if (state, k) in seen or not covers:
            continue
        seen.add((state, k))
        lengths = _lengths_within(order, table, state, k, table[state][k])
        entries.append((state, k, plan_of_lengths(order, state, k, lengths)))
        waiting.extend([(cover, k - length) for cover, length in zip(covers, lengths)])
    return Code(order, m, entries)
