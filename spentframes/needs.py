"""Needs of states: how many unspent frames they ask for, and why."""

from math import factorial

from spentframes.dealing import deal_rows, dealing_fault
from spentframes.errors import BadNeeds, BadNeedTable, UnlikeSizes
from spentframes.orders import MOST_STATES, ends_first
from spentframes.wholes import is_sequence, is_whole

MOST_NEED = 23
MOST_COVER_NEED = 22


def _room(needs):
    """Return the sum of the factorials of needs."""
    return sum([factorial(need) for need in needs])


def _least_above(needs):
    """Return the need of a state whose covers have these needs, which are not checked."""
    if len(needs) == 0:
        return 0
    room = _room(needs)
    k = max(needs) + 1
    while factorial(k) < room:
        k += 1
    return k


def least_count(needs):
    """Return the need of a state whose covers have these needs."""
    if not is_sequence(needs) or len(needs) > MOST_STATES:
        raise BadNeeds(-1)
    for at, need in enumerate(needs):
        if not is_whole(need, 0, MOST_COVER_NEED):
            raise BadNeeds(at)
    return _least_above(needs)


def _cover_needs(order, table, state):
    """Return the needs that a table tells for the covers of a state, covers ascending."""
    return [table[cover] for cover in order.covers(state)]


def need_table(order):
    """Return the needs of all states."""
    table = [0] * order.n
    for state in ends_first(order):
        table[state] = _least_above(_cover_needs(order, table, state))
    return tuple(table)


def need_of(order):
    """Return the need of state 0."""
    return need_table(order)[0]


def need_fault(order, table):
    """Return None if a table has the needs of all states, else (state, word)."""
    if not is_sequence(table) or len(table) != order.n:
        return -1, "length"
    for state in range(order.n):
        if not is_whole(table[state], 0, MOST_NEED):
            return state, "number"
    for state in range(order.n):
        need = _least_above(_cover_needs(order, table, state))
        if table[state] != need:
            return state, ("low" if table[state] < need else "high")
    return None


def spare_table(order):
    """Return for each state how much room its need leaves beside its covers."""
    table = need_table(order)
    spare = [0] * order.n
    for state in range(order.n):
        if order.covers(state):
            spare[state] = factorial(table[state]) - _room(_cover_needs(order, table, state))
    return tuple(spare)


def _short_reason(order, table, state):
    """Return why one frame less than its need is too few for a state, () without covers."""
    for cover in order.covers(state):
        if table[cover] == table[state] - 1:
            return "cover", cover
    if order.covers(state):
        return "sum", _room(_cover_needs(order, table, state))
    return ()


def need_paper(order):
    """Return an entry (need, rows, short) for each state."""
    table = need_table(order)
    paper = []
    for state in range(order.n):
        lengths = [table[state] - need for need in _cover_needs(order, table, state)]
        paper.append((table[state], deal_rows(table[state], lengths), _short_reason(order, table, state)))
    return tuple(paper)


def _is_entry(entry):
    """Tell whether an entry of a paper has the right form."""
    if not is_sequence(entry) or len(entry) != 3 or not is_whole(entry[0], 0, MOST_NEED):
        return False
    return is_sequence(entry[1]) and is_sequence(entry[2]) and len(entry[2]) in (0, 2)


def _is_true_reason(order, table, state, short):
    """Tell whether a paper's reason is true by the needs that it tells."""
    covers = order.covers(state)
    if not covers or len(short) == 0:
        return not covers and len(short) == 0
    word, number = short
    if not is_whole(number):
        return False
    if word == "cover":
        return number in covers and table[number] == table[state] - 1
    total = _room(_cover_needs(order, table, state))
    return word == "sum" and number == total and total > factorial(table[state] - 1)


def _entry_fault(order, table, state, entry):
    """Return the word of what is wrong with the entry of a state by the needs of the paper, or None."""
    if (entry[0] == 0) != (len(order.covers(state)) == 0):
        return "need"
    lengths = [entry[0] - need for need in _cover_needs(order, table, state)]
    if any([length < 1 for length in lengths]) or dealing_fault(entry[0], lengths, entry[1]) is not None:
        return "rows"
    return None if _is_true_reason(order, table, state, entry[2]) else "short"


def paper_fault(order, paper):
    """Return None if a paper shows by its own first items that these are the needs, else (state, word)."""
    if not is_sequence(paper) or len(paper) != order.n:
        return -1, "length"
    for state in range(order.n):
        if not _is_entry(paper[state]):
            return state, "entry"
    table = [entry[0] for entry in paper]
    for state in range(order.n):
        word = _entry_fault(order, table, state, paper[state])
        if word is not None:
            return state, word
    return None


def _is_worked(old, table, new, needs, state):
    """Tell whether a state has other covers in the new order, or a cover whose need is another one there."""
    covers = new.covers(state)
    return covers != old.covers(state) or any([needs[cover] != table[cover] for cover in covers])


def changed_needs(old, table, new):
    """Return (need table of the new order, states looked at again) from the need table of the old one."""
    if old.n != new.n:
        raise UnlikeSizes()
    fault = need_fault(old, table)
    if fault is not None:
        state, what = fault
        raise BadNeedTable(state, what)
    needs = list(table)
    worked = []
    for state in ends_first(new):
        if _is_worked(old, table, new, needs, state):
            worked.append(state)
            needs[state] = _least_above(_cover_needs(new, needs, state))
    return tuple(needs), tuple(sorted(worked))
