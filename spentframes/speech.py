"""Speech over an ordered link: each cover of what is told so far is told by a row of digits, frame by frame.

A frame is sent until it comes back, and the next one differs from it. So with three frames or more each new one tells a
digit; with two there is a choice for the first frame alone, and with one there is none.
"""

from spentframes.streams import frame_behind
from spentframes.tables import NodeTable

LEAST_FREE = 3
FIRST_SOURCE = (0, None, 0, None, 0)
FIRST_SINK = (0, (), None)


class Speech:
    """How the covers of the states of an order are told over an ordered link of m frames.

    A seat of the source is (told, cover, at, frame, risen): the state told so far, the cover that is being told or
    None, the number of its digits that have come back, the newest frame, and the state to which the source has risen.
    A seat of the sink is (told, digits, frame), with the digits that have come for the next cover.
    """

    def __init__(self, order, m):
        self.order = order
        self.m = m

    def count_digits(self, state):
        """Return the number of digits that tell a cover of a state."""
        many = 1
        if self.m >= LEAST_FREE:
            told = self.m - 1
            while told < len(self.order.covers(state)):
                told = told * (self.m - 1)
                many += 1
        return many

    def frame_of(self, before, digit):
        """Return the frame that tells a digit behind a frame, or first behind None."""
        if before is None and self.m < LEAST_FREE:
            return digit
        return frame_behind(self.m, before, digit)

    def cover_digits(self, state, cover):
        """Return the digits that tell a cover of a state."""
        place = self.order.covers(state).index(cover)
        if self.m < LEAST_FREE:
            return (place,)
        digits = ()
        for _ in range(self.count_digits(state)):
            digits = (place % (self.m - 1),) + digits
            place = place // (self.m - 1)
        return digits


    def source_gone_on(self, told, frame, risen):
        """Return the source's seat in which the next cover is told, if there is one to be told."""
        for cover in self.order.covers(told):
            if self.order.at_most(cover, risen):
                digit = self.cover_digits(told, cover)[0]
                return told, cover, 0, self.frame_of(frame, digit), risen
        return told, None, 0, frame, risen

    def source_behind_rise(self, seat, state):
        """Return the source's seat behind a rise to a state."""
        told, cover, at, frame, _ = seat
        if cover is None:
            return self.source_gone_on(told, frame, state)
        return told, cover, at, frame, state

    def source_behind_echo(self, seat):
        """Return the source's seat behind the frame that it sends, which has come back."""
        told, cover, at, frame, risen = seat
        digits = self.cover_digits(told, cover)
        if at + 1 < len(digits):
            return told, cover, at + 1, self.frame_of(frame, digits[at + 1]), risen
        return self.source_gone_on(cover, frame, risen)

    def source_steps(self, seat, is_once):
        """Return (rises, echoes): couples of a state or a frame and the source's seat behind it."""
        rises = []
        if seat == FIRST_SOURCE or not is_once:
            rises = [(state, self.source_behind_rise(seat, state)) for state in self.order.above(seat[4])]
        return rises, [] if seat[1] is None else [(seat[3], self.source_behind_echo(seat))]

    def sink_steps(self, seat):
        """Return couples of a new frame and the sink's seat behind it."""
        told, digits, frame = seat
        steps = {}
        for cover in self.order.covers(told):
            due = self.cover_digits(told, cover)
            if due[:len(digits)] == digits:
                new = self.frame_of(frame, due[len(digits)])
                more = due[:len(digits) + 1]
                steps[new] = (cover, (), new) if more == due else (told, more, new)
        return [(new, steps[new]) for new in steps]


def _number_seats(seats, numbers, found):
    """Put the seats that are new among those found behind the others, with their numbers."""
    for _, seat in found:
        if seat not in numbers:
            numbers[seat] = len(seats)
            seats.append(seat)


def _source_table(speech, shown, is_once):
    """Return the source's table."""
    seats = [FIRST_SOURCE]
    numbers = {FIRST_SOURCE: 0}
    moves = []
    rises = []
    while len(moves) < len(seats):
        risen, echoes = speech.source_steps(seats[len(moves)], is_once)
        _number_seats(seats, numbers, risen + echoes)
        moves.append([(0, frame, numbers[behind]) for frame, behind in echoes])
        rises.append([(shown[state], numbers[behind]) for state, behind in risen])
    return NodeTable([[triple[:2] for triple in triples] for triples in moves], moves, rises)


def _sink_table(speech, shown):
    """Return the sink's table."""
    seats = [FIRST_SINK]
    numbers = {FIRST_SINK: 0}
    moves = []
    while len(moves) < len(seats):
        steps = speech.sink_steps(seats[len(moves)])
        _number_seats(seats, numbers, steps)
        moves.append([(0, frame, numbers[behind]) for frame, behind in steps])
    sends = [[] if frame is None else [(0, frame)] for _, _, frame in seats]
    return NodeTable(sends, moves, None, [shown[told] for told, _, _ in seats])


def speaking_tables(order, m, shown, is_once):
    """Return the tables of a source and a sink over an ordered link of m frames that can tell an order.

    State x of the order is the state shown[x] of the source and the sink. With `is_once` the source rises once alone.
    """
    speech = Speech(order, m)
    return _source_table(speech, shown, is_once), _sink_table(speech, shown)
