"""Graphs whose vertices want keys and whose arcs give them, and how they hang together."""

from spentframes.errors import BadGraph
from spentframes.wholes import is_sequence, is_whole

MOST_VERTICES = 30000


class Graph:
    """Vertices with the keys that they want, and arcs with their ends and the keys that they give."""

    def __init__(self, wants, arcs):
        self.wants = [sorted(set(wanted)) for wanted in wants]
        self.sources = [arc[0] for arc in arcs]
        self.targets = [arc[1] for arc in arcs]
        self.gives = [tuple(arc[2]) for arc in arcs]
        self.leaving = [[] for _ in wants]
        self.coming = [[] for _ in wants]
        for at in range(len(arcs)):
            self.leaving[self.sources[at]].append(at)
            self.coming[self.targets[at]].append(at)


def _are_keys(thing):
    """Tell whether a thing is a sequence of whole numbers."""
    return is_sequence(thing) and all([is_whole(key) for key in thing])


def _is_arc(arc, last):
    """Tell whether a thing is an arc (one, other, keys) between vertices from 0 to the last one."""
    if not is_sequence(arc) or len(arc) != 3:
        return False
    return is_whole(arc[0], 0, last) and is_whole(arc[1], 0, last) and _are_keys(arc[2])


def read_graph(wants, arcs):
    """Return the graph of wants and arcs, or raise BadGraph."""
    if not is_sequence(wants) or len(wants) > MOST_VERTICES:
        raise BadGraph("wants", 0)
    for at, wanted in enumerate(wants):
        if not _are_keys(wanted):
            raise BadGraph("wants", at)
    if not is_sequence(arcs):
        raise BadGraph("arcs", 0)
    for at, arc in enumerate(arcs):
        if not _is_arc(arc, len(wants) - 1):
            raise BadGraph("arcs", at)
    return Graph(wants, arcs)


def _left_in_turn(graph, home, members):
    """Return members of one home in the order in which a walk along the arcs within, deepest first, leaves them."""
    order = []
    seen = {}
    waiting = [(vertex, False) for vertex in members]
    while waiting:
        vertex, is_done = waiting.pop()
        if is_done:
            order.append(vertex)
        elif vertex not in seen:
            seen[vertex] = True
            waiting.append((vertex, True))
            for arc in graph.leaving[vertex]:
                target = graph.targets[arc]
                if home[target] == home[vertex] and target not in seen:
                    waiting.append((target, False))
    return order


def strong_parts(graph, home, members):
    """Return the greatest sets of members in which each is reached from each other one by arcs within.

    `home` tells the home of each vertex; the members are all vertices of one home. No arc within leads from a set
    to an earlier one.
    """
    parts = []
    seen = {}
    for root in reversed(_left_in_turn(graph, home, members)):
        if root in seen:
            continue
        seen[root] = True
        part = []
        waiting = [root]
        while waiting:
            vertex = waiting.pop()
            part.append(vertex)
            for arc in graph.coming[vertex]:
                source = graph.sources[arc]
                if home[source] == home[vertex] and source not in seen:
                    seen[source] = True
                    waiting.append(source)
        parts.append(part)
    return parts


def count_given(graph, home, members):
    """Return for each key that arcs within give how many give it; the members are all vertices of one home."""
    given = {}
    for vertex in members:
        for arc in graph.leaving[vertex]:
            if home[graph.targets[arc]] == home[vertex]:
                for key in graph.gives[arc]:
                    given[key] = given.get(key, 0) + 1
    return given
