"""Searches through all standings to which the runs of a system lead."""

from spentframes.errors import TooMany
from spentframes.graphs import Graph
from spentframes.lots import taken_apart
from spentframes.outcomes import Above, Back, Stuck
from spentframes.runs import shows_above, turns_back
from spentframes.tours import Tour


class Search:
    """All standings to which runs lead, in the order of their first runs.

    Standings are gone through by the length of their first runs, and the deeds of each ascending; so of the runs that
    lead to a standing the first one is found first. `came` tells for each standing the place and the deed from which it
    was reached, `turn` the first such couple behind which the state shown falls or turns aside.
    """

    def __init__(self, system, most):
        self.system = system
        self.most = most
        self.standings = []
        self.places = {}
        self.came = []
        self.turn = None
        self._reach(system.first(), None)
        place = 0
        while place < len(self.standings):
            self._go_on(place)
            place += 1

    def is_let(self, _):
        """Tell whether the search goes on to a standing."""
        return True

    def _reach(self, standing, came):
        """Put a standing behind the others, with the place and the deed by which it was reached."""
        if len(self.standings) == self.most:
            raise TooMany(self.most)
        self.places[standing] = len(self.standings)
        self.standings.append(standing)
        self.came.append(came)

    def _go_on(self, place):
        """Do all deeds that lead from the standing at a place to another one."""
        standing = self.standings[place]
        for deed in self.system.changes_from(standing) + self.system.rises_from(standing):
            behind = self.system.moved(standing, deed)
            if not self.is_let(behind):
                continue
            if self.turn is None and turns_back(self.system, standing, behind):
                self.turn = (place, deed)
            if behind not in self.places:
                self._reach(behind, (place, deed))

    def run_to_place(self, place):
        """Return the first run to the standing at a place."""
        deeds = []
        while self.came[place] is not None:
            place, deed = self.came[place]
            deeds.append(deed)
        return tuple(deeds[::-1])

    def find_above(self):
        """Return Above with the first run behind which the sink shows what is not at most the source's state."""
        for place, standing in enumerate(self.standings):
            if shows_above(self.system, standing):
                return Above(self.run_to_place(place))
        return None

    def find_back(self):
        """Return Back with the first run whose last deed makes the state shown fall or turn aside."""
        if self.turn is None:
            return None
        place, deed = self.turn
        return Back(self.run_to_place(place) + (deed,))

    def find_stuck(self, keys):
        """Return Stuck with the first run to a standing on a fair loop in which the sink is always wrong.

        The keys tell what standings want and deeds give. Nothing else may be wrong with the system.
        """
        vertices, graph = wrong_vertices(self.system, self.standings, keys)
        lots, _ = taken_apart(graph)
        if not lots:
            return None
        run = self.run_to_place(self.places[vertices[lots[0][0]]])
        return Stuck(run, self._loop_within(vertices, graph, lots[0], keys))

    def _loop_within(self, vertices, graph, lot, keys):
        """Return the deeds of a fair loop from the first vertex of a fair lot and back."""
        missing = {key: True for vertex in lot for key in graph.wants[vertex]}
        loop = []
        for arc in Tour(graph, lot, lot[0]).whole():
            standing = vertices[graph.sources[arc]]
            target = vertices[graph.targets[arc]]
            if standing == target:
                deeds = self._deeds_staying(standing, missing, keys)
            else:
                deeds = self._deeds_between(standing, target, graph.gives[arc], keys)[:1]
            for deed in deeds:
                loop.append(deed)
                for key in keys.keys_given(standing, deed):
                    missing.pop(key, None)
        return tuple(loop)

    def _deeds_between(self, standing, target, gives, keys):
        """Return the deeds that lead from a standing to another one and give these keys."""
        deeds = [deed for deed in self.system.changes_from(standing) if keys.keys_given(standing, deed) == gives]
        return [deed for deed in deeds if self.system.moved(standing, deed) == target]

    def _deeds_staying(self, standing, missing, keys):
        """Return the deeds that leave a standing as it was and give a missing key."""
        deeds = [deed for deed in self.system.readings_from(standing) if keys.keys_given(standing, deed)[0] in missing]
        return [deed for deed in deeds if self.system.moved(standing, deed) == standing]

    def find_outcome(self, keys):
        """Return the first of Above, Back and Stuck that there is, or None."""
        for outcome in (self.find_above(), self.find_back()):
            if outcome is not None:
                return outcome
        return self.find_stuck(keys)


def wrong_vertices(system, standings, keys):
    """Return (vertices, graph): the standings in which the sink does not show the source's state, and their graph.

    All that a standing's deeds give that leave it as it was is given by one arc.
    """
    vertices = [standing for standing in standings if system.shown(standing) != standing[2]]
    numbers = {standing: vertex for vertex, standing in enumerate(vertices)}
    arcs = []
    for vertex, standing in enumerate(vertices):
        changes = system.changes_from(standing)
        for deed in changes:
            target = numbers.get(system.moved(standing, deed))
            if target is not None:
                arcs.append((vertex, target, keys.keys_given(standing, deed)))
        arcs.append((vertex, vertex, keys.keys_kept(standing, changes)))
    return vertices, Graph([keys.keys_wanted(standing) for standing in vertices], arcs)
