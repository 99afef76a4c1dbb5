"""A source that rises at most once, to one of its goals: the rows that tell the goals, and refusals."""

from spentframes.coursing import course_row, route_between
from spentframes.errors import BadGoalRows, BadGoals
from spentframes.goallots import Lots, is_within
from spentframes.nets import Net
from spentframes.rows import MOST_LISTED, begins_row, check_count, row_fault
from spentframes.systems import MOST_GOALS, System
from spentframes.tables import NodeTable
from spentframes.wholes import is_sequence, is_whole

MOST_LOTS = 256


def check_goals(order, goals):
    """Return goals as an ascending tuple, or raise BadGoals."""
    if not is_sequence(goals) or not 1 <= len(goals) <= MOST_GOALS:
        raise BadGoals(-1)
    for at, goal in enumerate(goals):
        if not is_whole(goal, 1, order.n - 1) or goal in goals[:at]:
            raise BadGoals(at)
    return tuple(sorted(goals))


def check_goals_and_frames(order, goals, m):
    """Return goals as an ascending tuple, or raise BadGoals, then BadCount if m is no number of frames."""
    names = check_goals(order, goals)
    check_count(m, MOST_LISTED)
    return names


def deal_goals(order, goals, m):
    """Return right goal rows over m frames, or None if there are none."""
    return Lots(order, check_goals_and_frames(order, goals, m)).deal_rows_to_all(m)


def _is_begun_wrongly(order, names, rows, at, earlier):
    """Tell whether the row at an index begins an earlier one, or the other way, though its goal is not at most."""
    if begins_row(rows[at], rows[earlier]) and not order.at_most(names[at], names[earlier]):
        return True
    return begins_row(rows[earlier], rows[at]) and not order.at_most(names[earlier], names[at])


def goal_rows_fault(order, goals, m, rows):
    """Return None for right goal rows over m frames, else (word, at) of the first fault."""
    names = check_goals_and_frames(order, goals, m)
    if not is_sequence(rows) or len(rows) != len(names):
        return "many", -1
    for at, row in enumerate(rows):
        if row_fault(m, row) is not None or len(row) == 0:
            return "row", at
        if any([_is_begun_wrongly(order, names, rows, at, earlier) for earlier in range(at)]):
            return "begins", at
    return None


def fewest_goal_frames(order, goals):
    """Return the least number of frames over which there are right goal rows."""
    lots = Lots(order, check_goals(order, goals))
    m = 1
    while not lots.can_deal_all(m):
        m += 1
    return m


def is_told(order, lot, k):
    """Tell whether a lot of goals can be told with k frames left."""
    lots = Lots(order, check_goals_and_frames(order, lot, k))
    return lots.told_with(k)[lots.full]


def refusal_of(order, goals, m):
    """Return a refusal, which shows that there are no right goal rows over m frames, or None if there are some."""
    lots = Lots(order, check_goals_and_frames(order, goals, m))
    if lots.can_deal_all(m):
        return None
    return tuple([lots.least_untold(level) for level in range(m)])


def _lot_word(lots, untold, level, lot):
    """Return the word of what is wrong with a lot of a level, or None.

    What stands in `untold` tells for each set of goals in how few lots it can be dealt by the level before.
    """
    mask = lots.mask_of(lot)
    if mask is None:
        return "lot"
    rest = lots.rest_of(mask)
    return "told" if rest == 0 or untold[rest] <= level else None


def refusal_fault(order, goals, m, paper):
    """Return None if a paper shows that there are no right goal rows over m frames, else (level, at, word)."""
    lots = Lots(order, check_goals_and_frames(order, goals, m))
    if not is_sequence(paper) or len(paper) != m:
        return -1, -1, "levels"
    fewest = lots.fewest_parts([])
    for level, untold in enumerate(paper):
        if not is_sequence(untold) or len(untold) > MOST_LOTS:
            return level, -1, "level"
        for at, lot in enumerate(untold):
            word = _lot_word(lots, fewest, level, lot)
            if word is not None:
                return level, at, word
        barred = [lots.mask_of(lot) for lot in untold]
        let = [mask for mask in range(1, lots.full + 1) if not any([is_within(bar, mask) for bar in barred])]
        fewest = lots.fewest_parts(let)
    return (m, -1, "goals") if fewest[lots.full] <= m else None


def _source_of_rows(names, rows):
    """Return the source's table: behind its rise it sends a row frame by frame, each until it comes back."""
    sends = [[]]
    moves = [[]]
    rises = []
    for goal, row in zip(names, rows):
        rises.append((goal, len(sends)))
        for frame in row:
            moves.append([(0, frame, len(sends) + 1)])
            sends.append([(0, frame)])
        sends.append([])
        moves.append([])
    return NodeTable(sends, moves, [rises] + [[] for _ in sends[1:]])


def _goal_shown(names, rows, begun):
    """Return the goal of the longest row that begins a row of frames, 0 if there is none."""
    shown = [(len(row), goal) for goal, row in zip(names, rows) if begins_row(row, begun)]
    return max(shown)[1] if shown else 0


def _sink_of_rows(names, rows):
    """Return the sink's table: its seats are the beginnings of the rows."""
    begun = sorted(set([tuple(row[:many]) for row in rows for many in range(len(row) + 1)]))
    numbers = {beginning: number for number, beginning in enumerate(begun)}
    sends = [[(0, frame) for frame in beginning[-1:]] for beginning in begun]
    moves = [[] for _ in begun]
    for beginning in begun[1:]:
        moves[numbers[beginning[:-1]]].append((0, beginning[-1], numbers[beginning]))
    return NodeTable(sends, moves, None, [_goal_shown(names, rows, beginning) for beginning in begun])


def rows_system(order, goals, m, rows):
    """Return the system of a source and a sink over one loose link that tell goals by right goal rows."""
    fault = goal_rows_fault(order, goals, m, rows)
    if fault is not None:
        word, at = fault
        raise BadGoalRows(word, at)
    names = check_goals(order, goals)
    tables = [_source_of_rows(names, rows), _sink_of_rows(names, rows)]
    return System(Net(2, 0, 1, [(0, 1, m, "loose")]), tables, order, names)


def goal_rows_of_code(code, goals):
    """Return the rows by which a right code tells the routes from 0 to goals."""
    names = check_goals(code.order, goals)
    return tuple([course_row(code, route_between(code.order, 0, goal)) for goal in names])
