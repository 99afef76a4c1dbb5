"""Systems: a net whose nodes run node tables, an order, and what can happen in them."""

from spentframes.errors import BadSystem, NoDeed, OrderedLink
from spentframes.nets import is_triple
from spentframes.tables import NodeTable
from spentframes.wholes import is_sequence, is_whole

MOST_GOALS = 8


def _named(table):
    """Return the couples (link, frame) that the sends and moves of a table name, each once."""
    named = {}
    for couples in table.sends:
        for couple in couples:
            named[couple] = True
    for triples in table.moves:
        for link, frame, _ in triples:
            named[(link, frame)] = True
    return list(named)


def _rises_beyond(table, n):
    """Tell whether the rises of a table name a state that an order of n states does not have."""
    return table.rises is not None and any([state >= n for couples in table.rises for state, _ in couples])


def _table_fault(net, table, order, node):
    """Return the word of what is wrong with the table of a node, or None."""
    if not isinstance(table, NodeTable):
        return "table"
    if (table.rises is None) == (node == net.source):
        return "rises"
    if (table.shows is None) == (node == net.sink):
        return "shows"
    named = _named(table)
    if any([link not in net.links_of(node) for link, _ in named]):
        return "link"
    if any([frame >= net.links[link][2] for link, frame in named]):
        return "frame"
    if _rises_beyond(table, order.n):
        return "rise"
    return "show" if table.shows is not None and max(table.shows) >= order.n else None


def are_goals(order, goals):
    """Tell whether a thing is a sequence of 1 to 8 unlike states above 0."""
    if not is_sequence(goals) or not 1 <= len(goals) <= MOST_GOALS:
        return False
    if not all([is_whole(goal, 1, order.n - 1) for goal in goals]):
        return False
    return len(set(goals)) == len(goals)


def _check_system(net, tables, order, goals, spent):
    """Raise BadSystem or OrderedLink if the parts make no system."""
    if not is_sequence(tables) or len(tables) != net.nodes:
        raise BadSystem(0, "many")
    for node, table in enumerate(tables):
        word = _table_fault(net, table, order, node)
        if word is not None:
            raise BadSystem(node, word)
    if goals is not None and not are_goals(order, goals):
        raise BadSystem(net.source, "goals")
    if not is_sequence(spent) or not all([is_triple(net, triple) for triple in spent]):
        raise BadSystem(0, "spent")
    for at, link in enumerate(net.links):
        if link[3] == "ordered":
            raise OrderedLink(at)


def _with_frame(sent, link, way, frame):
    """Return what was sent, with one more frame."""
    ways = list(sent[link])
    ways[way] = tuple(sorted(ways[way] + (frame,)))
    return sent[:link] + (tuple(ways),) + sent[link + 1:]


def _with_sends(sent, triples):
    """Return what was sent, with triples (link, way, frame) that are sent now."""
    for link, way, frame in triples:
        if frame not in sent[link][way]:
            sent = _with_frame(sent, link, way, frame)
    return sent


class System:
    """A net of loose links, a node table for each node, and an order of the states to which the source rises."""

    def __init__(self, net, tables, order, goals=None, spent=()):
        _check_system(net, tables, order, goals, spent)
        self.net = net
        self.tables = tuple(tables)
        self.order = order
        self.goals = None if goals is None else tuple(sorted(goals))
        self.spent = tuple(sorted(set([tuple(triple) for triple in spent])))
        self._receivers = [(other, one) for one, other, _, _ in net.links]

    def _sends_of(self, node, seat):
        """Return what a node sends in a seat, as triples (link, way, frame)."""
        return [(link, 0 if self.net.links[link][0] == node else 1, frame)
                for link, frame in self.tables[node].sends[seat]]

    def first(self):
        """Return the standing in which all nodes are in seat 0 and the source's state is 0."""
        sent = _with_sends((((), ()),) * len(self.net), self.spent)
        for node in range(self.net.nodes):
            sent = _with_sends(sent, self._sends_of(node, 0))
        return (0,) * self.net.nodes, sent, 0

    def states_from(self, risen):
        """Return the states to which the source can rise from a state, ascending."""
        if self.goals is None:
            return self.order.above(risen)
        return self.goals if risen == 0 else ()

    def readings_from(self, standing):
        """Return all deliveries that can be done in a standing, ascending."""
        _, sent, _ = standing
        return [("deliver", link, way, frame) for link in range(len(sent)) for way in range(2)
                for frame in sent[link][way]]

    def changes_from(self, standing):
        """Return the deliveries that can be done in a standing and lead to another one, ascending."""
        at, sent, _ = standing
        deeds = []
        for node, seat in enumerate(at):
            for link, frame, after in self.tables[node].moves[seat]:
                way = 0 if self._receivers[link][0] == node else 1
                if after != seat and frame in sent[link][way]:
                    deeds.append(("deliver", link, way, frame))
        return sorted(deeds)

    def rises_from(self, standing):
        """Return all rises that can be done in a standing, ascending."""
        return [("rise", state) for state in self.states_from(standing[2])]

    def deeds_from(self, standing):
        """Return all deeds that can be done in a standing, ascending."""
        return tuple(self.readings_from(standing) + self.rises_from(standing))

    def _can_do(self, standing, deed):
        """Tell whether a thing is a deed that can be done in a standing."""
        if not is_sequence(deed):
            return False
        _, sent, risen = standing
        if len(deed) == 2 and deed[0] == "rise":
            return is_whole(deed[1]) and deed[1] in self.states_from(risen)
        if len(deed) != 4 or deed[0] != "deliver":
            return False
        _, link, way, frame = deed
        return is_triple(self.net, (link, way, frame)) and frame in sent[link][way]

    def reached_by(self, deed):
        """Return the node that a deed reaches."""
        return self.net.source if deed[0] == "rise" else self._receivers[deed[1]][deed[2]]

    def moved(self, standing, deed):
        """Return the standing behind a deed that can be done."""
        at, sent, risen = standing
        node = self.reached_by(deed)
        if deed[0] == "rise":
            risen = deed[1]
            seat = self.tables[node].next_on_rise(at[node], risen)
        else:
            seat = self.tables[node].next_seat(at[node], deed[1], deed[3])
            if seat == at[node]:
                return standing
        if seat != at[node]:
            at = at[:node] + (seat,) + at[node + 1:]
            sent = _with_sends(sent, self._sends_of(node, seat))
        return at, sent, risen

    def after(self, standing, deed):
        """Return the standing behind a deed."""
        if not self._can_do(standing, deed):
            raise NoDeed(deed)
        return self.moved(standing, deed)

    def shown(self, standing):
        """Return the state that the sink shows in a standing."""
        sink = self.net.sink
        return self.tables[sink].shows[standing[0][sink]]

    def sending(self, standing):
        """Return what the nodes send in their seats of a standing, as ascending triples."""
        sends = [self._sends_of(node, seat) for node, seat in enumerate(standing[0])]
        return tuple(sorted([triple for triples in sends for triple in triples]))

    def is_quiet(self, standing):
        """Tell whether no delivery that can be done changes a standing."""
        return not self.changes_from(standing)

    def is_settled(self, standing):
        """Tell whether a standing is quiet and the sink shows the source's state."""
        return self.is_quiet(standing) and self.shown(standing) == standing[2]
