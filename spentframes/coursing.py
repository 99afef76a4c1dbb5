"""Courses told in frames: the row of a course, and what a row of frames tells."""

from spentframes.errors import BadCourse
from spentframes.rows import MOST_LISTED, begins_row, check_count, check_row, spell_row
from spentframes.wholes import is_sequence, is_whole


class Place:
    """Where a row of frames leads in a code: the state told, the frames left, and those begun behind it."""

    def __init__(self, state, unspent, begun, follows):
        self.state = state
        self.unspent = tuple(unspent)
        self.begun = tuple(begun)
        self.follows = follows

    def __eq__(self, other):
        return (isinstance(other, Place) and self.state == other.state and self.unspent == other.unspent
                and self.begun == other.begun and self.follows == other.follows)


def route_between(order, low, high):
    """Return the course from one state to another that takes each time the least cover, None if there is none."""
    if not order.at_most(low, high):
        return None
    route = [low]
    while route[-1] != high:
        route.append([cover for cover in order.covers(route[-1]) if order.at_most(cover, high)][0])
    return tuple(route)


def pieces_at(code, state, unspent):
    """Return couples (cover, piece) for the covers of a state, ascending, with these frames unspent."""
    covers = code.order.covers(state)
    if not covers:
        return []
    plan = code.plan_at(state, len(unspent))
    return [(cover, spell_row(unspent, row)) for cover, row in zip(covers, plan)]


def _without(unspent, piece):
    """Return the frames that are unspent behind a piece."""
    return tuple([frame for frame in unspent if frame not in piece])


def _check_course(order, course):
    """Raise BadCourse if a thing is no course from state 0."""
    if not is_sequence(course) or len(course) == 0:
        raise BadCourse(-1)
    for at, state in enumerate(course):
        if not is_whole(state) or state not in (order.covers(course[at - 1]) if at > 0 else (0,)):
            raise BadCourse(at)


def course_row(code, course):
    """Return the row of frames that tells a course from state 0."""
    _check_course(code.order, course)
    row = ()
    unspent = tuple(range(code.m))
    for at in range(1, len(course)):
        pieces = dict(pieces_at(code, course[at - 1], unspent))
        row = row + pieces[course[at]]
        unspent = _without(unspent, row)
    return row


def _read(code, row):
    """Return (course told, frames that are unspent behind it, frames of the row behind it)."""
    begun = check_row(code.m, row)
    course = (0,)
    unspent = tuple(range(code.m))
    while True:
        # No two pieces meet, so there is at most one.
        told = [couple for couple in pieces_at(code, course[-1], unspent) if begins_row(couple[1], begun)]
        if not told:
            return course, unspent, begun
        cover, piece = told[0]
        course = course + (cover,)
        unspent = _without(unspent, piece)
        begun = begun[len(piece):]


def read_place(code, row):
    """Return the place to which a row of frames leads."""
    course, unspent, begun = _read(code, row)
    pieces = pieces_at(code, course[-1], unspent)
    follows = len(begun) == 0 or any([begins_row(begun, piece) for _, piece in pieces])
    return Place(course[-1], unspent, begun, follows)


def told_course(code, row):
    """Return the longest course from state 0 whose row begins a row of frames."""
    course, _, _ = _read(code, row)
    return course


def shown_state(code, row):
    """Return the last state of the course that a row of frames tells."""
    return told_course(code, row)[-1]


def next_frames(code, row):
    """Return the frames that can come next in a row that follows the code, ascending."""
    course, unspent, begun = _read(code, row)
    pieces = pieces_at(code, course[-1], unspent)
    return tuple(sorted(set([piece[len(begun)] for _, piece in pieces if begins_row(begun, piece)])))


def each_row(code):
    """Yield each row that follows a code of few frames, ascending."""
    check_count(code.m, MOST_LISTED)
    waiting = [()]
    while waiting:
        row = waiting.pop()
        yield row
        # The least row is taken last from a list, so it is put there last.
        for frame in sorted(next_frames(code, row), reverse=True):
            waiting.append(row + (frame,))
