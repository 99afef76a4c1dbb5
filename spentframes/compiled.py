"""Compiled tables: the sender, the receiver and the relays between them as node tables."""

from spentframes.coursing import each_row, next_frames, shown_state
from spentframes.ends import ack_frame, hear_ack, hear_frame, hear_rise, sent_frame, start_sender
from spentframes.errors import NoRelay, TooFewPaths, TooManyFrames
from spentframes.flows import check_paths
from spentframes.nets import Net
from spentframes.systems import System
from spentframes.tables import NodeTable
from spentframes.wholes import is_whole

MOST_COMPILED = 6


def _check_frames(frames):
    """Raise TooManyFrames if there are more frames than tables are compiled for."""
    if frames > MOST_COMPILED:
        raise TooManyFrames(frames)


def pair_net(m):
    """Return the net of a source and a sink with one loose link of m frames, without it if m is 0."""
    return Net(2, 0, 1, [(0, 1, m, "loose")] if m != 0 else [])


def _rises_of(code, sender):
    """Return couples of each state above the sender's and the sender behind a rise to it."""
    return [(state, hear_rise(code, sender, state)) for state in code.order.above(sender[2])]


def _acks_of(code, sender):
    """Return the couple of the frame that the sender sends and the sender behind its acknowledgement, if any."""
    frame = sent_frame(sender)
    return [] if frame is None else [(frame, hear_ack(code, sender, frame))]


def sender_seats(code):
    """Return all senders to which rises and acknowledgements lead, the first one first."""
    _check_frames(code.m)
    seats = [start_sender()]
    known = {seats[0]: True}
    at = 0
    while at < len(seats):
        for _, sender in _rises_of(code, seats[at]) + _acks_of(code, seats[at]):
            if sender not in known:
                known[sender] = True
                seats.append(sender)
        at += 1
    return tuple(seats)


def receiver_seats(code):
    """Return the rows that follow a code, in their order."""
    _check_frames(code.m)
    return tuple(list(each_row(code)))


def _sender_table(code, couples):
    """Return the sender's table; frame f is sent and acknowledged as the couple at index f."""
    seats = sender_seats(code)
    numbers = {sender: number for number, sender in enumerate(seats)}
    sends = []
    moves = []
    rises = []
    for sender in seats:
        acks = _acks_of(code, sender)
        sends.append([couples[frame] for frame, _ in acks])
        moves.append([couples[frame] + (numbers[behind],) for frame, behind in acks])
        rises.append([(state, numbers[behind]) for state, behind in _rises_of(code, sender)])
    return NodeTable(sends, moves, rises)


def _receiver_table(code, couples):
    """Return the receiver's table; frame f comes in and is acknowledged as the couple at index f."""
    seats = receiver_seats(code)
    numbers = {row: number for number, row in enumerate(seats)}
    sends = []
    moves = []
    for row in seats:
        frame = ack_frame(row)
        sends.append([] if frame is None else [couples[frame]])
        moves.append([couples[new] + (numbers[hear_frame(row, new)],) for new in next_frames(code, row)])
    return NodeTable(sends, moves, None, [shown_state(code, row) for row in seats])


def pair_of(code):
    """Return the sender's and the receiver's table over one loose link."""
    couples = [(0, frame) for frame in range(code.m)]
    return _sender_table(code, couples), _receiver_table(code, couples)


def pair_system(code):
    """Return the system of a sender and a receiver over one loose link."""
    tables = pair_of(code)
    return System(pair_net(code.m), tables, code.order)


def _couple(hop):
    """Return the link and the frame of a hop."""
    return hop[0], hop[2]


def _hops_through(net, paths, node):
    """Return for each path through a node the couples of the hop that leads to it and of the one that leaves it."""
    through = []
    for path in paths:
        for at in range(1, len(path)):
            if net.sender(path[at][0], path[at][1]) == node:
                through.append((_couple(path[at - 1]), _couple(path[at])))
    return through


def _all_marks(many):
    """Return all tuples of so many marks, ascending."""
    seats = [()]
    for _ in range(many):
        seats = [marks + (mark,) for marks in seats for mark in range(3)]
    return seats


def _relay_seat(through, numbers, marks):
    """Return what a relay sends with these marks, and its moves."""
    sends = []
    moves = []
    for at, mark in enumerate(marks):
        coming, going = through[at]
        if mark > 0:
            sends.append(going)
        if mark == 2:
            sends.append(coming)
        else:
            behind = numbers[marks[:at] + (mark + 1,) + marks[at + 1:]]
            moves.append((coming if mark == 0 else going) + (behind,))
    return sends, moves


def _relay_table(net, paths, node):
    """Return the table of a relay for at most six right paths, whether they lead through it or not."""
    through = _hops_through(net, paths, node)
    marks = _all_marks(len(through))
    numbers = {seat: number for number, seat in enumerate(marks)}
    rows = [_relay_seat(through, numbers, seat) for seat in marks]
    return NodeTable([sends for sends, _ in rows], [moves for _, moves in rows])


def relay_table(net, paths, node):
    """Return the table of a node between the source and the sink that sends on all that has come."""
    right = check_paths(net, paths)
    if not is_whole(node, 0, net.nodes - 1) or node in (net.source, net.sink):
        raise NoRelay(node)
    _check_frames(len(right))
    return _relay_table(net, right, node)


def net_of(code, net, paths):
    """Return a table for each node of a net, which tell the frames of a code over as many paths."""
    right = check_paths(net, paths)
    _check_frames(code.m)
    if len(right) < code.m:
        raise TooFewPaths(code.m, len(right))
    used = right[:code.m]
    tables = []
    for node in range(net.nodes):
        if node == net.source:
            tables.append(_sender_table(code, [_couple(path[0]) for path in used]))
        elif node == net.sink:
            tables.append(_receiver_table(code, [_couple(path[-1]) for path in used]))
        else:
            tables.append(_relay_table(net, used, node))
    return tuple(tables)


def net_system(code, net, paths):
    """Return the system of a net whose nodes tell the frames of a code over as many paths."""
    return System(net, net_of(code, net, paths), code.order)
