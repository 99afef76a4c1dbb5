"""Ordered pairs: a source and a sink over one link that repeats and loses frames but keeps their order."""

from spentframes.errors import BadCount, BadPair, LongTail, NoDeed
from spentframes.nets import MOST_LINK_FRAMES, Net
from spentframes.runs import always_shows, end_of, loop_along, run_fault
from spentframes.searches import Search
from spentframes.systems import System
from spentframes.wholes import is_sequence, is_whole

MOST_TAIL = 8


def _line_with(line, sends):
    """Return a line behind what is sent from a seat: a frame is put if it differs from the newest one."""
    last, tail = line
    for _, frame in sends:
        if frame != (tail[-1] if tail else last):
            tail = tail + (frame,)
    return last, tail


def frame_read(standing, deed):
    """Return the frame that a reading deed reads in a standing."""
    _, way, k = deed
    last, tail = standing[1][way]
    return last if k == 0 else tail[k - 1]


class OrderedPair:
    """A source, node 0, and a sink, node 1, with node tables, and an order of the states of the source."""

    def __init__(self, order, frames, tables, goals=None):
        if not is_whole(frames, 1, MOST_LINK_FRAMES):
            raise BadCount(MOST_LINK_FRAMES)
        loose = System(Net(2, 0, 1, [(0, 1, frames, "loose")]), tables, order, goals)
        for node, table in enumerate(loose.tables):
            for seat, sends in enumerate(table.sends):
                if len(sends) > 1:
                    raise BadPair(node, seat)
        self.order = order
        self.frames = frames
        self.tables = loose.tables
        self.goals = loose.goals
        self._loose = loose

    def first(self):
        """Return the standing in which both nodes are in seat 0 and have sent what they send there."""
        lines = tuple([_line_with((None, ()), table.sends[0]) for table in self.tables])
        return (0, 0), lines, 0

    def readings_from(self, standing):
        """Return all readings that can be done in a standing, by way and by place."""
        deeds = []
        for way in range(2):
            last, tail = standing[1][way]
            least = 1 if last is None else 0
            deeds.extend([("read", way, k) for k in range(least, len(tail) + 1)])
        return deeds

    def changes_from(self, standing):
        """Return the readings that can be done in a standing and lead to another one, by way and by place."""
        return [deed for deed in self.readings_from(standing) if self.moved(standing, deed) != standing]

    def rises_from(self, standing):
        """Return all rises that can be done in a standing, ascending."""
        return [("rise", state) for state in self._loose.states_from(standing[2])]

    def deeds_from(self, standing):
        """Return all deeds that can be done in a standing: readings, then rises."""
        return tuple(self.readings_from(standing) + self.rises_from(standing))

    def _can_do(self, standing, deed):
        """Tell whether a thing is a deed that can be done in a standing."""
        if not is_sequence(deed):
            return False
        if len(deed) == 2 and deed[0] == "rise":
            return is_whole(deed[1]) and deed[1] in self._loose.states_from(standing[2])
        if len(deed) != 3 or deed[0] != "read" or not is_whole(deed[1], 0, 1):
            return False
        last, tail = standing[1][deed[1]]
        return is_whole(deed[2], 1 if last is None else 0, len(tail))

    def _with_seat(self, standing, node, seat):
        """Return the standing behind the move of a node to a seat, from which it sends."""
        at, lines, risen = standing
        line = _line_with(lines[node], self.tables[node].sends[seat])
        if node == 0:
            return (seat, at[1]), (line, lines[1]), risen
        return (at[0], seat), (lines[0], line), risen

    def moved(self, standing, deed):
        """Return the standing behind a deed that can be done."""
        at, lines, risen = standing
        if deed[0] == "rise":
            seat = self.tables[0].next_on_rise(at[0], deed[1])
            return self._with_seat((at, lines, deed[1]), 0, seat)
        _, way, k = deed
        frame = frame_read(standing, deed)
        line = (frame, lines[way][1][k:])
        lines = (line, lines[1]) if way == 0 else (lines[0], line)
        # Way 0 leads to node 1, way 1 to node 0.
        node = 1 - way
        return self._with_seat((at, lines, risen), node, self.tables[node].next_seat(at[node], 0, frame))

    def after(self, standing, deed):
        """Return the standing behind a deed."""
        if not self._can_do(standing, deed):
            raise NoDeed(deed)
        return self.moved(standing, deed)

    def shown(self, standing):
        """Return the state that the sink shows in a standing."""
        return self.tables[1].shows[standing[0][1]]

    def sending(self, standing):
        """Return what the nodes send in their seats of a standing, as ascending couples (way, frame)."""
        return tuple([(node, frame) for node in range(2) for _, frame in self.tables[node].sends[standing[0][node]]])


def pair_end(pair, run):
    """Return the last standing of a run."""
    return end_of(pair, run)


def pair_run_fault(pair, run):
    """Return None if a thing is a run in which the sink shows nothing wrong, else (what, place)."""
    return run_fault(pair, run)


def _is_fair(pair, standings, loop):
    """Tell whether all that is sent in the standings of a loop is read, and no tail is left unread for ever."""
    read = {(deed[1], frame_read(standing, deed)): True for standing, deed in zip(standings, loop) if deed[0] == "read"}
    goes_on = [any([deed[0] == "read" and deed[1] == way and deed[2] > 0 for deed in loop]) for way in range(2)]
    for standing in standings:
        for way, frame in pair.sending(standing):
            if (way, frame) not in read or not (goes_on[way] or not standings[0][1][way][1]):
                return False
    return True


def pair_loop_fault(pair, run, loop):
    """Return None if a loop behind a run is fair and stuck, else the word of what it is not."""
    word, standings = loop_along(pair, run, loop)
    if word is not None:
        return word
    if not _is_fair(pair, standings, loop):
        return "unfair"
    return "told" if always_shows(pair, standings) else None


def pair_round(pair, standing):
    """Return (deeds, standing) of a round: on each way the first unread frame is read, else the last one again."""
    deeds = []
    for way in range(2):
        last, tail = standing[1][way]
        if tail or last is not None:
            deeds.append(("read", way, 1 if tail else 0))
            standing = pair.moved(standing, deeds[-1])
    return tuple(deeds), standing


class PairKeys:
    """The keys of what is sent on both ways, and of an unread frame that is read on each of them.

    Where a tail is not empty and the way is sent on, a loop is fair only if an unread frame is read.
    """

    def __init__(self, pair):
        self.pair = pair

    def keys_wanted(self, standing):
        """Return the keys of what is sent in a standing, and those of ways with a tail on which it is sent."""
        keys = []
        for way, frame in self.pair.sending(standing):
            keys.append(way * self.pair.frames + frame)
            if standing[1][way][1]:
                keys.append(2 * self.pair.frames + way)
        return tuple(keys)

    def keys_kept(self, standing, changes):
        """Return the keys of all that can be read in a standing but by the deeds that change it."""
        kept = [deed for deed in self.pair.readings_from(standing) if deed not in changes]
        return [key for deed in kept for key in self.keys_given(standing, deed)]

    def keys_given(self, standing, deed):
        """Return the keys of what a reading deed reads in a standing."""
        _, way, k = deed
        key = way * self.pair.frames + frame_read(standing, deed)
        return (key,) if k == 0 else (key, 2 * self.pair.frames + way)


class PairSearch(Search):
    """A search through all standings of a pair to which runs lead without a long tail."""

    def __init__(self, pair, most):
        self.met_long = False
        Search.__init__(self, pair, most)

    def is_let(self, standing):
        """Tell whether no tail of a standing is too long."""
        if max([len(tail) for _, tail in standing[1]]) <= MOST_TAIL:
            return True
        self.met_long = True
        return False


def judge_pair(pair, most=30000):
    """Return None if a pair is right, else what breaks it."""
    search = PairSearch(pair, most)
    if search.met_long:
        raise LongTail()
    return search.find_outcome(PairKeys(pair))
