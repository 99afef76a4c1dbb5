"""Outcomes: what can be found out about a system, and whether it breaks the system."""

from spentframes.runs import loop_fault, shows_above, standings_along, turns_back
from spentframes.wholes import as_tuples


class Above:
    """A run behind which the sink shows a state that is not at most the source's."""

    def __init__(self, run):
        self.run = as_tuples(run)

    def __eq__(self, other):
        return isinstance(other, Above) and self.run == other.run


class Back:
    """A run whose last deed makes the state that the sink shows fall or turn aside."""

    def __init__(self, run):
        self.run = as_tuples(run)

    def __eq__(self, other):
        return isinstance(other, Back) and self.run == other.run


class Stuck:
    """A run and a fair loop behind it in which the sink does not always show the source's state."""

    def __init__(self, run, loop):
        self.run = as_tuples(run)
        self.loop = as_tuples(loop)

    def __eq__(self, other):
        return isinstance(other, Stuck) and self.run == other.run and self.loop == other.loop


class Told:
    """The rows of frames by which the far nodes are told each route."""

    def __init__(self, rows):
        self.rows = as_tuples(rows)

    def __eq__(self, other):
        return isinstance(other, Told) and self.rows == other.rows


def breaks(system, outcome):
    """Tell whether an outcome breaks a system."""
    if isinstance(outcome, Stuck):
        return loop_fault(system, outcome.run, outcome.loop) is None
    if not isinstance(outcome, (Above, Back)):
        return False
    standings = standings_along(system, system.first(), outcome.run)
    if standings is None:
        return False
    if isinstance(outcome, Above):
        return shows_above(system, standings[-1])
    return len(standings) > 1 and turns_back(system, standings[-2], standings[-1])
