"""Searches through all standings to which the runs of a system lead."""

from spentframes.errors import TooMany
from spentframes.graphs import Graph
from spentframes.lots import fair_tour, taken_apart
from spentframes.outcomes import Above, Back, Stuck
from spentframes.runs import shows_above, turns_back


class Search:
    """All standings to which runs lead, in the order of their first runs.

    Standings are gone through by the length of their first runs, and the deeds of each ascending; so of the runs that
    lead to a standing the first one is found first.
    """

    def __init__(self, system, most):
        self.system = system
        self.most = most
        self.standings = []
        self.places = {}
        self.came = []
        self.turn = None
        self._reach(system.first(), None)
        place = 0
        while place < len(self.standings):
            self._go_on(place)
            place += 1

    def is_let(self, _):
        """Tell whether the search goes on to a standing."""
        return True

    def _reach(self, standing, came):
        """Put a standing behind the others, with the place and the deed by which it was reached."""
        if len(self.standings) == self.most:
            raise TooMany(self.most)
        self.places[standing] = len(self.standings)
        self.standings.append(standing)
        self.came.append(came)

    def _go_on(self, place):
        """Do all deeds of the standing at a place."""
        standing = self.standings[place]
        for deed in self.system.deeds_from(standing):
            behind = self.system.moved(standing, deed)
            # Most deeds change nothing, and a standing is compared with itself far quicker than it is looked up.
            if behind == standing or not self.is_let(behind):
                continue
            if self.turn is None and turns_back(self.system, standing, behind):
                self.turn = (place, deed)
            if behind not in self.places:
                self._reach(behind, (place, deed))

    def run_to(self, place):
        """Return the first run to the standing at a place."""
        deeds = []
        while self.came[place] is not None:
            place, deed = self.came[place]
            deeds.append(deed)
        return tuple(deeds[::-1])

    def find_above(self):
        """Return Above with the first run behind which the sink shows what is not at most the source's state."""
        for place, standing in enumerate(self.standings):
            if shows_above(self.system, standing):
                return Above(self.run_to(place))
        return None

    def find_back(self):
        """Return Back with the first run whose last deed makes the state shown fall or turn aside."""
        if self.turn is None:
            return None
        place, deed = self.turn
        return Back(self.run_to(place) + (deed,))

    def find_stuck(self, keys):
        """Return Stuck with the first run to a standing on a fair loop in which the sink is always wrong.

        The keys tell what standings want and deeds give. Nothing else may be wrong with the system.
        """
        vertices, graph = wrong_vertices(self.system, self.standings, keys)
        lots, _ = taken_apart(graph)
        if not lots:
            return None
        lot = [vertices[vertex] for vertex in lots[0]]
        return Stuck(self.run_to(self.places[lot[0]]), self._loop_within(lot, keys))

    def _loop_within(self, lot, keys):
        """Return the deeds of a fair loop from the first standing of a fair lot and back."""
        numbers = {standing: vertex for vertex, standing in enumerate(lot)}
        wants = [keys.keys_wanted(standing) for standing in lot]
        arcs = []
        deeds = []
        for vertex, standing in enumerate(lot):
            for deed in self.system.readings_from(standing):
                target = numbers.get(self.system.moved(standing, deed))
                if target is not None:
                    arcs.append((vertex, target, keys.keys_given(standing, deed)))
                    deeds.append(deed)
        tour = fair_tour(wants, arcs, list(range(len(lot))), 0)
        return tuple([deeds[arc] for arc in tour])

    def find_outcome(self, keys):
        """Return the first of Above, Back and Stuck that there is, or None."""
        for outcome in (self.find_above(), self.find_back()):
            if outcome is not None:
                return outcome
        return self.find_stuck(keys)


def wrong_vertices(system, standings, keys):
    """Return (vertices, graph): the standings in which the sink does not show the source's state, and their graph.

    All that a standing's deeds give that leave it as it was is given by one arc.
    """
    vertices = [standing for standing in standings if system.shown(standing) != standing[2]]
    numbers = {standing: vertex for vertex, standing in enumerate(vertices)}
    arcs = []
    for vertex, standing in enumerate(vertices):
        kept = []
        for deed in system.readings_from(standing):
            behind = system.moved(standing, deed)
            if behind == standing:
                kept.extend(keys.keys_given(standing, deed))
            elif behind in numbers:
                arcs.append((vertex, numbers[behind], keys.keys_given(standing, deed)))
        arcs.append((vertex, vertex, kept))
    return vertices, Graph([keys.keys_wanted(standing) for standing in vertices], arcs)
