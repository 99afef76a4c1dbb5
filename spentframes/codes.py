"""Codes: which frames tell which rise of the state."""

from spentframes.datatext import data_text
from spentframes.errors import BadCode, FewFrames, NotReached
from spentframes.makers import upper_order
from spentframes.needs import need_table
from spentframes.plans import plan_fault, plan_of_lengths
from spentframes.rows import check_count
from spentframes.shapes import read_shaped
from spentframes.wholes import is_whole

_CODE_SHAPE = (
    "parts", ("the", "code"), ("whole", 0, 24),
    ("row", ("parts", ("whole", 0, 23), ("whole", 0, 24), ("row", ("row", ("whole", 0, 23))))))


class Code:
    """An order, a number of frames, and entries (state, k, plan); nothing is checked."""

    def __init__(self, order, m, entries):
        self.order = order
        self.m = m
        made = [(state, k, tuple([tuple(row) for row in plan])) for state, k, plan in entries]
        self.entries = tuple(sorted(made))
        self._plans = {}
        for state, k, plan in self.entries:
            if (state, k) not in self._plans:
                self._plans[(state, k)] = plan

    def __eq__(self, other):
        return (isinstance(other, Code) and self.order == other.order and self.m == other.m
                and self.entries == other.entries)

    def plan_at(self, state, k):
        """Return the plan of the first entry with this state and this k, or None."""
        return self._plans.get((state, k))


def _each_reached(code, state, k):
    """Yield the couples that are reached from a couple, in their order.

    The plan of a couple is followed only when the next couple is asked for: so its reader can judge it first.
    """
    waiting = {(-k, state): True}
    while waiting:
        least = min(list(waiting))
        del waiting[least]
        left, lower = -least[0], least[1]
        yield lower, left
        for at, cover in enumerate(code.order.covers(lower)):
            waiting[(len(code.plan_at(lower, left)[at]) - left, cover)] = True


def _couple_fault(code, state, k, many):
    """Return the first fault of the entries of a reached couple, of which there are so many, or None."""
    if many == 0:
        return "lacking", state, k, -1
    if many > 1:
        return "twice", state, k, -1
    fault = plan_fault(code.order, state, k, code.plan_at(state, k))
    if fault is None:
        return None
    word, cover = fault
    return word, state, k, cover


def code_fault(code):
    """Return None if a code is right, else its first fault (word, state, k, cover)."""
    many = {}
    for state, k, _ in code.entries:
        many[(state, k)] = many.get((state, k), 0) + 1
    due = {}
    for state, k in _each_reached(code, 0, code.m):
        if code.order.covers(state):
            due[(state, k)] = True
            fault = _couple_fault(code, state, k, many.get((state, k), 0))
            if fault is not None:
                return fault
    for state, k, _ in code.entries:
        if (state, k) not in due:
            return "spare", state, k, -1
    return None


def reached_couples(code):
    """Return the couples that a right code reaches, by k descending, then by state ascending."""
    return tuple(list(_each_reached(code, 0, code.m)))


def deep_code(order, m):
    """Return the code that leaves each state, but 0, exactly its need; None if the need of 0 is greater than m."""
    check_count(m)
    needs = need_table(order)
    if needs[0] > m:
        return None
    entries = []
    for state in range(order.n):
        covers = order.covers(state)
        if covers:
            k = m if state == 0 else needs[state]
            entries.append((state, k, plan_of_lengths(order, state, k, [k - needs[cover] for cover in covers])))
    return Code(order, m, entries)


def code_length(code):
    """Return the greatest number of frames that a course from state 0 spends in a right code."""
    return code.m - min([k for _, k in reached_couples(code)])


def widened_code(code, m):
    """Return the code for m frames that has the same rows as a right code for fewer ones."""
    check_count(m)
    if m < code.m:
        raise FewFrames(code.m)
    return Code(code.order, m, [(state, k + m - code.m, plan) for state, k, plan in code.entries])


def code_above(code, state, k):
    """Return the part of a right code from a reached couple on, with its states counted from this one."""
    if not is_whole(state) or not is_whole(k) or (state, k) not in reached_couples(code):
        raise NotReached(state, k)
    upper, kept = upper_order(code.order, state)
    couples = list(_each_reached(code, state, k))
    entries = [(kept.index(x), left, code.plan_at(x, left)) for x, left in couples if code.order.covers(x)]
    return Code(upper, k, entries)


def code_text(code):
    """Return the text of a code; its order is not in it."""
    return data_text(("code", code.m, code.entries))


def read_code(order, text):
    """Return the right code of a text for an order."""
    _, m, entries = read_shaped(text, _CODE_SHAPE)
    code = Code(order, m, entries)
    fault = code_fault(code)
    if fault is not None:
        word, state, k, cover = fault
        raise BadCode(word, state, k, cover)
    return code
