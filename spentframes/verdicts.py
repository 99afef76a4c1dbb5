"""Verdicts: whether a system is right, and papers that show it."""

from spentframes.lots import steps_fault, taken_apart
from spentframes.runs import shows_above, turns_back
from spentframes.searches import Search, wrong_vertices
from spentframes.wholes import is_sequence


class TripleKeys:
    """The keys of the triples (link, way, frame) of a system's net: their places among all of them."""

    def __init__(self, system):
        self.system = system
        net = system.net
        triples = [(at, way, frame) for at in range(len(net)) for way in range(2) for frame in range(net.links[at][2])]
        self.numbers = {triple: number for number, triple in enumerate(triples)}

    def keys_wanted(self, standing):
        """Return the keys of what is sent in a standing, ascending."""
        return tuple([self.numbers[triple] for triple in self.system.sending(standing)])

    def keys_kept(self, standing, changes):
        """Return the keys of all that can be delivered in a standing but by the deeds that change it."""
        return [self.numbers[deed[1:]] for deed in self.system.readings_from(standing) if deed not in changes]

    def keys_given(self, _, deed):
        """Return the key of what a deed delivers."""
        return (self.numbers[deed[1:]],)


def reached(system, most=30000):
    """Return all standings to which runs lead, in the order of their first runs."""
    return tuple(Search(system, most).standings)


def run_to(system, standing, most=30000):
    """Return the first run to a standing to which runs lead."""
    search = Search(system, most)
    return search.run_to_place(search.places[standing])


def judge(system, most=30000):
    """Return None if a system is right, else what breaks it."""
    return Search(system, most).find_outcome(TripleKeys(system))


def wrong_graph(system, standings):
    """Return (wants, arcs) of those standings in which the sink does not show the source's state."""
    keys = TripleKeys(system)
    vertices = [standing for standing in standings if system.shown(standing) != standing[2]]
    numbers = {standing: vertex for vertex, standing in enumerate(vertices)}
    arcs = []
    for vertex, standing in enumerate(vertices):
        for deed in system.readings_from(standing):
            target = numbers.get(system.moved(standing, deed))
            if target is not None:
                arcs.append((vertex, target, keys.keys_given(standing, deed)))
    return tuple([keys.keys_wanted(standing) for standing in vertices]), tuple(arcs)


def right_paper(system, most=30000):
    """Return a paper that a system is right, or None if it is not."""
    search = Search(system, most)
    if search.find_above() is not None or search.turn is not None:
        return None
    _, graph = wrong_vertices(system, search.standings, TripleKeys(system))
    lots, steps = taken_apart(graph)
    return None if lots else (tuple(search.standings), steps)


def _standing_fault(system, places, standing):
    """Return the word of what is wrong with a standing of a paper, or None."""
    if shows_above(system, standing):
        return "above"
    # Deeds that change nothing lead to a standing that is there, and what is shown stays.
    for deed in system.changes_from(standing) + system.rises_from(standing):
        behind = system.moved(standing, deed)
        if behind not in places:
            return "closed"
        if turns_back(system, standing, behind):
            return "back"
    return None


def right_fault(system, paper):
    """Return None if a paper shows that a system is right, else its first fault (word, at)."""
    if not is_sequence(paper) or len(paper) != 2 or not is_sequence(paper[0]) or not is_sequence(paper[1]):
        return "paper", 0
    standings, steps = paper
    places = {standing: at for at, standing in enumerate(standings)}
    if system.first() not in places:
        return "first", 0
    for at, standing in enumerate(standings):
        word = _standing_fault(system, places, standing)
        if word is not None:
            return word, at
    _, graph = wrong_vertices(system, standings, TripleKeys(system))
    fault = steps_fault(graph, steps)
    return None if fault is None else ("steps", fault[0])
