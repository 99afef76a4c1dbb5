"""The foe: rounds that settle a system, and runs that show what its far nodes cannot tell apart."""

from spentframes.cuts import check_side, frames_across
from spentframes.errors import BadTargets, NotAtRest, TooMany
from spentframes.members import Member
from spentframes.outcomes import Above, Back, Told
from spentframes.runs import always_shows, end_of, round_from, run_fault, standings_along
from spentframes.wholes import is_sequence, is_whole


def settle(system, standing, held=(), most=30000):
    """Return (deeds, loop): the deeds of rounds until a standing comes that comes again, and those until it does."""
    places = {standing: 0}
    rounds = []
    while len(rounds) < most:
        deeds, standing = round_from(system, standing, held)
        rounds.append(deeds)
        if standing in places:
            began = places[standing]
            before = [deed for done in rounds[:began] for deed in done]
            return tuple(before), tuple([deed for done in rounds[began:] for deed in done])
        places[standing] = len(rounds)
    raise TooMany(most)


def _is_at_rest(system, standing, most):
    """Tell whether rounds lead a standing back to itself and the sink shows the source's state all along."""
    deeds, loop = settle(system, standing, (), most)
    return not deeds and always_shows(system, standings_along(system, standing, loop))


def _check_targets(system, standing, targets):
    """Raise BadTargets if a thing is no sequence of unlike states to which the source can rise in a standing."""
    if not is_sequence(targets):
        raise BadTargets(-1)
    let = [state for _, state in system.rises_from(standing)]
    for at, target in enumerate(targets):
        if not is_whole(target) or target not in let or target in targets[:at]:
            raise BadTargets(at)


def is_spent(standing, triple):
    """Tell whether a triple (link, way, frame) was sent before a standing."""
    link, way, frame = triple
    return frame in standing[1][link][way]


def _rest_class(members, held, most):
    """Let the members of a class do equally many rounds, until each is on its loop; return the first outcome."""
    many = max([member.find_rounds(held, most) for member in members])
    for member in members:
        member.do_rounds(held, many)
    for member in members:
        outcome = member.look()
        if outcome is not None:
            return outcome
    return None


def _end_members(members, held, row):
    """Give the row to those members for which no held triple is spent; return (outcome, the others).

    The others are couples of the least held triple that is spent and a member.
    """
    others = []
    for member in members:
        spent = [triple for triple in held if is_spent(member.standing, triple)]
        if spent:
            others.append((spent[0], member))
        elif not member.shows_own():
            return member.stuck(held), []
        else:
            member.row = row
    return None, others


class Parting:
    """Members whose runs are told apart by the crossing triples that come to the far nodes, one after another."""

    def __init__(self, unspent, most):
        self.unspent = unspent
        self.most = most

    def part_class(self, members, row):
        """Go through a class of members with a row; return the first outcome, or None."""
        held = [triple for triple in self.unspent if triple not in row]
        outcome = _rest_class(members, held, self.most)
        if outcome is not None:
            return outcome
        outcome, others = _end_members(members, held, row)
        if outcome is not None:
            return outcome
        for triple in held:
            group = [member for least, member in others if least == triple]
            if group:
                outcome = self._part_group(group, row + (triple,))
                if outcome is not None:
                    return outcome
        return None

    def _part_group(self, group, row):
        """Deliver the last triple of the row to a group, and go through it as a class; return the first outcome."""
        for member in group:
            member.do_deed(("deliver",) + row[-1])
        for member in group:
            outcome = member.look()
            if outcome is not None:
                return outcome
        return self.part_class(group, row)


def _parted(system, run, standing, targets, crossing, most):
    """Return (outcome, members) behind a run to a standing at rest; without an outcome the members are told apart."""
    members = []
    for state in sorted([standing[2]] + list(targets)):
        member = Member(system, state, run, standing)
        if state != standing[2]:
            member.do_deed(("rise", state))
        members.append(member)
    unspent = [triple for triple in crossing if not is_spent(standing, triple)]
    outcome = Parting(unspent, most).part_class(members, ())
    return outcome, members


def told_apart(system, run, targets, side, most=30000):
    """Return what breaks a system whose source may rise to targets behind a run, or how each of them is told."""
    standing = end_of(system, run)
    fault = run_fault(system, run)
    if fault is not None:
        what, place = fault
        return Above(run[:place]) if what == "above" else Back(run[:place])
    if not _is_at_rest(system, standing, most):
        raise NotAtRest()
    _check_targets(system, standing, targets)
    crossing = frames_across(system.net, side)
    done = tuple([tuple(deed) for deed in run])
    outcome, members = _parted(system, done, standing, targets, crossing, most)
    if outcome is not None:
        return outcome
    return tuple([(member.state, member.row, member.whole_run()) for member in members])


class Places:
    """The routes from state 0 that the far nodes are told, each with its row and a run to a standing at rest."""

    def __init__(self, system, crossing, most):
        self.system = system
        self.crossing = crossing
        self.most = most
        self.found = []

    def add_place(self, route, row, run, standing):
        """Put a place behind the others."""
        if len(self.found) == self.most:
            raise TooMany(self.most)
        self.found.append((route, row, run, standing))

    def _targets_of(self, route):
        """Return the states that are told behind a route."""
        if self.system.goals is None:
            return self.system.order.covers(route[-1])
        return self.system.goals if route == (0,) else ()

    def go_on(self, place):
        """Tell apart what can be told behind a place; return the first outcome, or None."""
        route, _, run, standing = place
        targets = self._targets_of(route)
        if not targets:
            return None
        outcome, members = _parted(self.system, run, standing, targets, self.crossing, self.most)
        if outcome is not None:
            return outcome
        for member in members:
            if member.state != route[-1]:
                self.add_place(route + (member.state,), member.row, member.whole_run(), member.standing)
        return None


def break_by(system, side, most=30000):
    """Return what breaks a system across a side, or Told with the row and the run of each route."""
    crossing = frames_across(system.net, check_side(system.net, side))
    start = Member(system, 0, (), system.first())
    if not start.shows_own():
        return Above(())
    deeds, loop = settle(system, system.first(), (), most)
    for deed in deeds + loop:
        start.do_deed(deed)
    outcome = start.look()
    if outcome is not None:
        return outcome
    places = Places(system, crossing, most)
    spent = tuple([triple for triple in crossing if is_spent(start.standing, triple)])
    places.add_place((0,), spent, deeds, start.standing)
    at = 0
    while at < len(places.found):
        outcome = places.go_on(places.found[at])
        if outcome is not None:
            return outcome
        at += 1
    rows = sorted([(route, row, run) for route, row, run, _ in places.found])
    return Told(rows)
