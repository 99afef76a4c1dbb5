"""Finite partial orders of states with the least state 0."""

from spentframes.errors import BadOrder
from spentframes.wholes import is_couple, is_sequence, is_whole

MOST_STATES = 24
MOST_PAIRS = 600


def _check_parts(n, pairs):
    """Raise BadOrder if n is no number of states or the pairs are no pairs of them."""
    if not is_whole(n, 1, MOST_STATES):
        raise BadOrder("states", 0)
    if not is_sequence(pairs) or len(pairs) > MOST_PAIRS:
        raise BadOrder("pairs", 0)
    for at, pair in enumerate(pairs):
        if not is_couple(pair, n - 1):
            raise BadOrder("pair", at)


def _closed(n, pairs):
    """Return rows of truth values: row a holds True at b if a chain of pairs leads from a to b."""
    less = [[False] * n for _ in range(n)]
    for one, other in pairs:
        less[one][other] = True
    for middle in range(n):
        for low in range(n):
            if less[low][middle]:
                less[low] = [less[low][high] or less[middle][high] for high in range(n)]
    return less


def _check_closed(less):
    """Raise BadOrder if a state lies below itself or 0 does not lie below all others."""
    for state in range(len(less)):
        if less[state][state]:
            raise BadOrder("ring", state)
    for state in range(1, len(less)):
        if not less[0][state]:
            raise BadOrder("least", state)


def _is_cover(less, low, high):
    """Tell whether a state lies above another one with no state between them."""
    return less[low][high] and not any([less[low][mid] and less[mid][high] for mid in range(len(less))])


def ends_first(order):
    """Return all states so that each stands behind its covers."""
    # A cover has fewer states above it than the state that it covers.
    return sorted(range(order.n), key=lambda state: len(order.above(state)))


def is_course(order, states):
    """Tell whether a thing is a course: at least one state, each but the first a cover of the one before."""
    if not is_sequence(states) or len(states) == 0:
        return False
    for at, state in enumerate(states):
        if not is_whole(state, 0, order.n - 1):
            return False
        if at > 0 and state not in order.covers(states[at - 1]):
            return False
    return True


class Order:
    """The least partial order in which a lies below b for each pair (a, b)."""

    def __init__(self, n, pairs):
        _check_parts(n, pairs)
        less = _closed(n, pairs)
        _check_closed(less)
        states = list(range(n))
        self.n = n
        self._above = tuple([tuple([high for high in states if less[low][high]]) for low in states])
        self._below = tuple([tuple([low for low in states if less[low][high]]) for high in states])
        self._covers = tuple([tuple([high for high in states if _is_cover(less, low, high)]) for low in states])
        self._ends = tuple([state for state in states if not self._covers[state]])
        self.edges = tuple([(state, cover) for state in states for cover in self._covers[state]])

    def __len__(self):
        return len(self._covers)

    def __eq__(self, other):
        return isinstance(other, Order) and self.n == other.n and self.edges == other.edges

    @property
    def ends(self):
        """The states without a cover, ascending."""
        return self._ends

    def at_most(self, one, other):
        """Tell whether one state is the other one or lies below it."""
        return one == other or other in self._above[one]

    def covers(self, state):
        """Return the covers of a state, ascending."""
        return self._covers[state]

    def above(self, state):
        """Return the states above a state, ascending."""
        return self._above[state]

    def below(self, state):
        """Return the states below a state, ascending."""
        return self._below[state]

    def height(self, state):
        """Return the number of edges on the longest course from a state."""
        heights = {}
        for upper in ends_first(self):
            heights[upper] = max([heights[cover] + 1 for cover in self._covers[upper]], default=0)
        return heights[state]

    def count_courses(self, state):
        """Return the number of courses that lead from a state to an end."""
        counts = {end: 1 for end in self._ends}
        for upper in ends_first(self):
            if upper not in counts:
                counts[upper] = sum([counts[cover] for cover in self._covers[upper]])
        return counts[state]

    def each_course(self, state):
        """Yield the courses that lead from a state to an end, ascending."""
        if not self._covers[state]:
            yield (state,)
        for cover in self._covers[state]:
            for course in self.each_course(cover):
                yield (state,) + course
