"""Plans: the rows that tell the covers of a state with the frames that are unspent."""

from spentframes.dealing import deal_by_length
from spentframes.rows import row_fault, rows_meet
from spentframes.wholes import is_sequence, is_whole


def plan_fault(order, state, k, plan):
    """Return None if a plan of a state with k unspent frames is right, else (word, cover) of its first fault."""
    covers = order.covers(state)
    if not is_sequence(plan) or len(plan) != len(covers):
        return "many", -1
    for at, cover in enumerate(covers):
        if row_fault(k, plan[at]) is not None or len(plan[at]) == 0:
            return "row", cover
        if any([rows_meet(row, plan[at]) for row in plan[:at]]):
            return "begins", cover
    return None


def plan_of_lengths(order, state, k, lengths):
    """Return a plan with a row of each length, from 1 to k, for the covers of a state; None if they do not fit."""
    if not all([is_whole(length, 0, k) for length in lengths]):
        return None
    return deal_by_length(k, lengths, ())
