"""What breaks ordered pairs of one or two frames whose order or goals do not fit them.

A new frame differs from the one before, so with two frames there is no choice behind the first frame, and with one
there is none at all. So runs in which the source rises to unlike states are kept in step: their sinks read the same
frames and show the same, while each source goes on in its own way.
"""

from spentframes.errors import TooMany
from spentframes.members import Runner
from spentframes.ordered import fits_ordered, three_apart
from spentframes.outcomes import Above, Stuck
from spentframes.pairs import pair_round

MOST_FEW = 2
MOST_SEATS = 30
MOST_ROUNDS = 30000


class Budget:
    """The rounds that may be done: any number of them if the tables are small."""

    def __init__(self, pair):
        self.is_endless = max([len(table) for table in pair.tables]) <= MOST_SEATS
        self.done = 0

    def spend(self):
        """Count one more round."""
        self.done += 1
        if self.done > MOST_ROUNDS and not self.is_endless:
            raise TooMany(MOST_ROUNDS)


class PairRunner(Runner):
    """A runner over an ordered link."""

    def unread(self):
        """Return the frames that the sink has not read yet."""
        return self.standing[1][0][1]

    def do_round(self, k):
        """Let the sink read the k-th unread frame, its last one again if k is 0, and the source the next frame."""
        if k > 0 or self.standing[1][0][0] is not None:
            self.do_deed(("read", 0, k))
        last, tail = self.standing[1][1]
        if tail or last is not None:
            self.do_deed(("read", 1, 1 if tail else 0))

    def rest(self, budget):
        """Do rounds until a standing comes again; return the first outcome, or None if the sink shows this state."""
        passed = {}
        while self.standing not in passed:
            passed[self.standing] = len(self.deeds)
            budget.spend()
            deeds, _ = pair_round(self.system, self.standing)
            for deed in deeds:
                self.do_deed(deed)
        outcome = self.look()
        if outcome is None and not self.shows_own():
            return self.stuck_since(passed[self.standing])
        return outcome

    def stuck_since(self, many):
        """Return Stuck with the loop of all deeds behind the first ones, so many."""
        return Stuck(self.before + tuple(self.deeds[:many]), self.deeds[many:])

    def stuck_waiting(self):
        """Return Stuck with the loop in which the sink reads its last frame again and again."""
        many = len(self.deeds)
        start = self.standing
        self.do_round(0)
        while self.standing != start:
            self.do_round(0)
        return self.stuck_since(many)


def _wait(runners, budget):
    """Let all sinks read their last frames equally often, until each has an unread frame or its rounds come round."""
    passed = [{} for _ in runners]
    while True:
        waiting = [at for at, one in enumerate(runners) if not one.unread() and one.standing not in passed[at]]
        if not waiting:
            return
        for at in waiting:
            passed[at][runners[at].standing] = True
        budget.spend()
        for one in runners:
            one.do_round(0)


def _look_waited(runners):
    """Return the first outcome of runners that have waited, or None if each has an unread frame."""
    for one in runners:
        outcome = one.look()
        if outcome is not None:
            return outcome
    for one in runners:
        if not one.unread() and not one.shows_own():
            return one.stuck_waiting()
    return None


def _with_same_frame(runners):
    """Return two runners whose next unread frames are the same; of three runners there always are two."""
    for at, one in enumerate(runners):
        for other in runners[:at]:
            if one.unread()[0] == other.unread()[0]:
                return [other, one]
    return runners


def _keep_in_step(runners, budget):
    """Return the first outcome of runners that have risen to unlike states from one standing at rest."""
    passed = {}
    while True:
        _wait(runners, budget)
        outcome = _look_waited(runners)
        if outcome is not None:
            return outcome
        runners = _with_same_frame(runners)
        standings = tuple([one.standing for one in runners])
        if standings in passed:
            wrong = [at for at, one in enumerate(runners) if not one.shows_own()][0]
            return runners[wrong].stuck_since(passed[standings][wrong])
        passed[standings] = [len(one.deeds) for one in runners]
        for one in runners:
            # An even number of frames is skipped, and one at most is left, so that not ever more are left.
            one.do_round((len(one.unread()) - 1) // 2 * 2 + 1)


def _unlike_states(pair):
    """Return (base, states): from the base the source can rise to states that a pair of so few frames cannot tell."""
    order = pair.order
    if pair.goals is not None:
        return 0, (pair.goals[:2] if pair.frames == 1 else three_apart(order, pair.goals))
    if len(order.covers(0)) > pair.frames:
        return 0, order.covers(0)[:pair.frames + 1]
    # Behind the first frame there is one choice less.
    base = [state for state in range(1, order.n) if len(order.covers(state)) >= pair.frames][0]
    return base, order.covers(base)[:pair.frames]


def _behind_rise(one, state):
    """Return a runner behind the run of another one and a rise."""
    risen = PairRunner(one.system, state, one.whole_run(), one.standing)
    risen.do_deed(("rise", state))
    return risen


def break_pair(pair):
    """Return what breaks a pair of one or two frames whose order or goals do not fit them, else None."""
    if pair.frames > MOST_FEW or fits_ordered(pair.order, pair.frames, pair.goals):
        return None
    budget = Budget(pair)
    start = PairRunner(pair, 0, (), pair.first())
    if not start.shows_own():
        return Above(())
    outcome = start.rest(budget)
    base, states = _unlike_states(pair)
    if outcome is None and base != 0:
        start = _behind_rise(start, base)
        outcome = start.rest(budget)
    if outcome is not None:
        return outcome
    return _keep_in_step([_behind_rise(start, state) for state in states], budget)
