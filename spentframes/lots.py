"""Fair lots of graphs, tours through them, and papers that there is none."""

from spentframes.errors import NoTour
from spentframes.graphs import count_given, read_graph, strong_parts
from spentframes.lotpapers import Parts
from spentframes.tours import Tour
from spentframes.wholes import is_sequence, is_whole


def _let_leave(graph, home, given, vertex):
    """Let a vertex leave its part, and return the keys that no arc within the part gives any more."""
    number = home[vertex]
    arcs = [arc for arc in graph.leaving[vertex] if home[graph.targets[arc]] == number]
    # From here on an arc from the vertex to itself is not found a second time.
    home[vertex] = -1
    arcs.extend([arc for arc in graph.coming[vertex] if home[graph.sources[arc]] == number])
    lost = []
    for arc in arcs:
        for key in graph.gives[arc]:
            given[key] -= 1
            if given[key] == 0:
                lost.append(key)
    return lost


def _kept_members(graph, home, members, steps):
    """Let members leave their part while they want a key that no arc within gives, and return the others.

    A step for each such key is put behind the steps.
    """
    number = home[members[0]]
    given = count_given(graph, home, members)
    wanting = {}
    for vertex in members:
        for key in graph.wants[vertex]:
            wanting.setdefault(key, []).append(vertex)
    lacking = [key for key in wanting if key not in given]
    while lacking:
        key = lacking.pop()
        leaving = [vertex for vertex in wanting[key] if home[vertex] == number]
        if leaving:
            steps.append((number, "key", key))
        for vertex in leaving:
            lacking.extend([other for other in _let_leave(graph, home, given, vertex) if other in wanting])
    return [vertex for vertex in members if home[vertex] == number]


def _split(graph, home, many, members, steps):
    """Return the strong parts of a part, which get its number and the next ones behind `many`, with steps for them."""
    parts = strong_parts(graph, home, members)
    numbers = [home[members[0]]] + list(range(many, many + len(parts) - 1))
    for at, part in enumerate(parts):
        for vertex in part:
            home[vertex] = numbers[at]
    steps.extend([(numbers[at], "apart", tuple(sorted(part))) for at, part in enumerate(parts[:-1])])
    return parts


def taken_apart(graph):
    """Return (lots, steps): the greatest fair lots, and the steps that take all other vertices away."""
    home = [0] * len(graph.wants)
    waiting = [list(range(len(home)))] if home else []
    many = 1
    lots = []
    steps = []
    while waiting:
        parts = _split(graph, home, many, waiting.pop(), steps)
        many += len(parts) - 1
        for part in parts:
            kept = _kept_members(graph, home, part, steps)
            if len(kept) == len(part):
                lots.append(tuple(sorted(part)))
            elif kept:
                waiting.append(kept)
    return tuple(sorted(lots)), tuple(steps)


def fair_lots(wants, arcs):
    """Return the greatest fair lots, by their least members."""
    lots, _ = taken_apart(read_graph(wants, arcs))
    return lots


def _is_fair(graph, lot):
    """Tell whether a thing is a sequence of unlike vertices that form a fair lot."""
    if not is_sequence(lot) or not all([is_whole(vertex, 0, len(graph.wants) - 1) for vertex in lot]):
        return False
    if len(set(lot)) != len(lot):
        return False
    home = [-1] * len(graph.wants)
    for vertex in lot:
        home[vertex] = 0
    given = count_given(graph, home, lot)
    if not all([key in given for vertex in lot for key in graph.wants[vertex]]):
        return False
    # No vertices at all have no part, so they are no lot.
    return len(strong_parts(graph, home, lot)) == 1


def is_fair_lot(wants, arcs, lot):
    """Tell whether a thing is a sequence of unlike vertices that form a fair lot."""
    return _is_fair(read_graph(wants, arcs), lot)


def fair_tour(wants, arcs, lot, vertex):
    """Return a fair tour within a fair lot, from a vertex of it and back."""
    graph = read_graph(wants, arcs)
    if not _is_fair(graph, lot) or not is_whole(vertex) or vertex not in lot:
        raise NoTour()
    return Tour(graph, lot, vertex).whole()


def tour_fault(wants, arcs, vertex, tour):
    """Return None if a thing is a fair tour from a vertex and back, else the word of what it is not."""
    graph = read_graph(wants, arcs)
    if not is_sequence(tour) or not all([is_whole(arc, 0, len(arcs) - 1) for arc in tour]):
        return "arc"
    at = vertex
    wanted = {key: True for key in graph.wants[vertex]}
    given = {}
    for arc in tour:
        if graph.sources[arc] != at:
            return "path"
        at = graph.targets[arc]
        for key in graph.wants[at]:
            wanted[key] = True
        for key in graph.gives[arc]:
            given[key] = True
    if at != vertex:
        return "open"
    return None if all([key in given for key in wanted]) else "unfair"


def no_lot_paper(wants, arcs):
    """Return a paper that there is no fair lot, or None if there is one."""
    lots, steps = taken_apart(read_graph(wants, arcs))
    return None if lots else steps


def no_lot_fault(wants, arcs, steps):
    """Return None if steps are a paper that there is no fair lot, else (place, word) of the first wrong step."""
    return steps_fault(read_graph(wants, arcs), steps)


def steps_fault(graph, steps):
    """Return what `no_lot_fault` returns for the steps and a graph."""
    parts = Parts(graph)
    if not is_sequence(steps):
        return 0, "step"
    for place, step in enumerate(steps):
        word = parts.do_step(step)
        if word is not None:
            return place, word
    return None if parts.are_empty() else (len(steps), "left")
