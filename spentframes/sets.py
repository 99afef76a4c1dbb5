"""A source that rises at most once and is not answered: the sets of frames that tell its goals."""

from spentframes.errors import BadGoalSets, NotSilent
from spentframes.foe import is_spent
from spentframes.goals import check_goals, check_goals_and_frames
from spentframes.members import Member
from spentframes.nets import Net
from spentframes.outcomes import Above
from spentframes.systems import System
from spentframes.tables import NodeTable
from spentframes.wholes import is_sequence, is_whole

ENOUGH_FRAMES = 5
MOST_ROUNDS = 30000


def _all_sets(m):
    """Return all sets of frames but the empty one, as ascending tuples."""
    sets = [()]
    for frame in range(m):
        sets = sets + [some + (frame,) for some in sets]
    return sets[1:]


def _is_within(one, other):
    """Tell whether all items of a sequence are in another one."""
    return all([item in other for item in one])


def _lie_well(order, goal, one, other_goal, other):
    """Tell whether of the sets of two goals one lies within the other only if its goal is at most the other goal."""
    if _is_within(one, other) and not order.at_most(goal, other_goal):
        return False
    return order.at_most(other_goal, goal) or not _is_within(other, one)


def _dealt(order, choices):
    """Return a set for each goal out of its choices, so that all lie well, or None; goals with few choices first."""
    if not choices:
        return {}
    goal = min([(len(choices[name]), name) for name in choices])[1]
    for one in choices[goal]:
        left = {}
        for other in choices:
            if other != goal:
                left[other] = [some for some in choices[other] if _lie_well(order, goal, one, other, some)]
        dealt = _dealt(order, left)
        if dealt is not None:
            dealt[goal] = one
            return dealt
    return None


def _deal(order, names, m):
    """Return right goal sets over m frames, or None if there are none."""
    if m >= ENOUGH_FRAMES:
        # No couple of frames lies within another one, and there are more of them than goals.
        couples = [some for some in _all_sets(ENOUGH_FRAMES) if len(some) == 2]
        return tuple(couples[:len(names)])
    dealt = _dealt(order, {name: _all_sets(m) for name in names})
    return None if dealt is None else tuple([dealt[name] for name in names])


def deal_sets(order, goals, m):
    """Return right goal sets over m frames, or None if there are none."""
    return _deal(order, check_goals_and_frames(order, goals, m), m)


def _is_set(m, thing):
    """Tell whether a thing is an ascending sequence of frames that is not empty."""
    if not is_sequence(thing) or len(thing) == 0:
        return False
    for at, frame in enumerate(thing):
        if not is_whole(frame, 0, m - 1) or (at > 0 and frame <= thing[at - 1]):
            return False
    return True


def goal_sets_fault(order, goals, m, sets):
    """Return None for right goal sets over m frames, else (word, at) of the first fault."""
    names = check_goals_and_frames(order, goals, m)
    if not is_sequence(sets) or len(sets) != len(names):
        return "many", -1
    for at, one in enumerate(sets):
        if not _is_set(m, one):
            return "set", at
        if not all([_lie_well(order, names[at], one, names[to], sets[to]) for to in range(at)]):
            return "within", at
    return None


def fewest_set_frames(order, goals):
    """Return the least number of frames over which there are right goal sets."""
    names = check_goals(order, goals)
    m = 1
    while _deal(order, names, m) is None:
        m += 1
    return m


def _source_of_sets(names, sets):
    """Return the source's table: behind its rise it sends all frames of a set."""
    sends = [[]] + [[(0, frame) for frame in one] for one in sets]
    rises = [[(goal, at + 1) for at, goal in enumerate(names)]] + [[] for _ in sets]
    return NodeTable(sends, [[] for _ in sends], rises)


def _sink_of_sets(m, names, sets):
    """Return the sink's table: a seat tells which frames have come, and the goal of the last set that they were."""
    goal_of = {tuple(one): goal for goal, one in zip(names, sets)}
    seats = [((), 0)]
    numbers = {seats[0]: 0}
    moves = []
    while len(moves) < len(seats):
        come, shown = seats[len(moves)]
        nexts = []
        for frame in range(m):
            if frame not in come:
                more = tuple(sorted(come + (frame,)))
                behind = (more, goal_of.get(more, shown))
                if behind not in numbers:
                    numbers[behind] = len(seats)
                    seats.append(behind)
                nexts.append((0, frame, numbers[behind]))
        moves.append(nexts)
    return NodeTable([[] for _ in seats], moves, None, [shown for _, shown in seats])


def sets_system(order, goals, m, sets):
    """Return the system of a source and a silent sink over one loose link that tell goals by right goal sets."""
    fault = goal_sets_fault(order, goals, m, sets)
    if fault is not None:
        word, at = fault
        raise BadGoalSets(word, at)
    names = check_goals(order, goals)
    tables = [_source_of_sets(names, sets), _sink_of_sets(m, names, sets)]
    return System(Net(2, 0, 1, [(0, 1, m, "loose")]), tables, order, names)


def is_silent(system):
    """Tell whether a system has two nodes and its sink sends nothing."""
    return system.net.nodes == 2 and not any([len(sends) > 0 for sends in system.tables[system.net.sink].sends])


def _sets_sent(system):
    """Return couples of each goal and what the source first sends behind a rise to it from its first seat."""
    first = system.first()
    told = []
    for goal in system.goals:
        risen = system.moved(first, ("rise", goal))
        told.append((goal, tuple([triple for triple in system.sending(risen) if not is_spent(first, triple)])))
    return tuple(told)


def _first_wrong(order, told):
    """Return the goals of the first sets that are not right: (goal, None) for an empty one; None if all are right.

    For two sets the first goal's one lies within the other's, though the goal is not at most the other one.
    """
    for goal, one in told:
        if not one:
            return goal, None
        for other_goal, other in told:
            if _is_within(one, other) and not order.at_most(goal, other_goal):
                return goal, other_goal
    return None


def _look_settled(member, held):
    """Let a member do rounds until it is on its loop; return the first outcome, or None."""
    member.do_rounds(held, member.find_rounds(held, MOST_ROUNDS))
    outcome = member.look()
    if outcome is None and not member.shows_own():
        return member.stuck(held)
    return outcome


def _risen(start, goal):
    """Return a member behind another one's run and a rise."""
    member = Member(start.system, goal, start.whole_run(), start.standing)
    member.do_deed(("rise", goal))
    return member


def _break_told(system, goal, other_goal):
    """Return what breaks a silent system whose sink learns nothing of a goal that it does not learn of another one.

    If there is no other goal, it learns nothing of the goal at all.
    """
    start = Member(system, 0, (), system.first())
    if not start.shows_own():
        return Above(())
    held = [deed[1:] for deed in system.readings_from(start.standing) if system.reached_by(deed) == system.net.source]
    outcome = _look_settled(start, held)
    if outcome is not None:
        return outcome
    member = _risen(start, goal)
    outcome = _look_settled(member, held)
    if outcome is not None:
        return outcome
    # What the goal's run delivered was sent in the other goal's run too, so the sink comes to show the same there.
    other = _risen(start, other_goal)
    for deed in member.deeds[1:]:
        other.do_deed(deed)
    return other.look()


def break_sets(system):
    """Return what breaks a silent system, or couples of each goal and the set of triples that tells it."""
    if not is_silent(system) or system.goals is None:
        raise NotSilent()
    told = _sets_sent(system)
    wrong = _first_wrong(system.order, told)
    if wrong is None:
        return told
    goal, other_goal = wrong
    return _break_told(system, goal, other_goal)
