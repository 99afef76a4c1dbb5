"""Runs of a system side by side, each with the state to which the source has risen in it."""

from spentframes.errors import TooMany
from spentframes.outcomes import Above, Back, Stuck
from spentframes.runs import round_from


class Runner:
    """A state, a run behind which it is the source's state, and the standing to which the run leads.

    Deeds are done first and looked at later: `seen` tells how many of them were looked at, `last` the standing there.
    """

    def __init__(self, system, state, run, standing):
        self.system = system
        self.state = state
        self.before = run
        self.standing = standing
        self.deeds = []
        self.seen = 0
        self.last = standing

    def whole_run(self):
        """Return the run up to the last deed done."""
        return self.before + tuple(self.deeds)

    def do_deed(self, deed):
        """Do a deed that can be done."""
        self.deeds.append(deed)
        self.standing = self.system.moved(self.standing, deed)

    def shows_own(self):
        """Tell whether the sink shows the runner's state."""
        return self.system.shown(self.standing) == self.state

    def look(self):
        """Return the first outcome among the deeds that were not looked at yet, or None."""
        order = self.system.order
        while self.seen < len(self.deeds):
            behind = self.system.moved(self.last, self.deeds[self.seen])
            self.seen += 1
            shown = self.system.shown(behind)
            if not order.at_most(shown, self.state):
                return Above(self.before + tuple(self.deeds[:self.seen]))
            if not order.at_most(self.system.shown(self.last), shown):
                return Back(self.before + tuple(self.deeds[:self.seen]))
            self.last = behind
        return None


class Member(Runner):
    """A runner over loose links, which does rounds, and the row of triples by which it is told apart from others."""

    def __init__(self, system, state, run, standing):
        Runner.__init__(self, system, state, run, standing)
        self.rounds = []
        self.row = ()

    def find_rounds(self, held, most):
        """Find the rounds with triples held until a standing comes for the second time, and return their number."""
        self.rounds = []
        standing = self.standing
        passed = {standing: True}
        while len(self.rounds) < most:
            deeds, standing = round_from(self.system, standing, held)
            self.rounds.append((deeds, standing))
            if standing in passed:
                return len(self.rounds)
            passed[standing] = True
        raise TooMany(most)

    def do_rounds(self, held, many):
        """Do so many rounds with triples held, those that were found first."""
        for at in range(many):
            if at < len(self.rounds):
                deeds, self.standing = self.rounds[at]
            else:
                deeds, self.standing = round_from(self.system, self.standing, held)
            self.deeds.extend(deeds)

    def stuck(self, held):
        """Return Stuck with the run so far and the rounds with triples held until this standing comes again."""
        loop = []
        standing = self.standing
        while True:
            deeds, standing = round_from(self.system, standing, held)
            loop.extend(deeds)
            if standing == self.standing:
                return Stuck(self.whole_run(), loop)
