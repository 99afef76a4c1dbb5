"""The tour through a fair lot that gives all that its vertices want."""


class Tour:
    """A tour from a vertex of a fair lot, made arc by arc within the lot."""

    def __init__(self, graph, lot, vertex):
        self.graph = graph
        self.is_in = {member: True for member in lot}
        self.missing = {key: True for member in lot for key in graph.wants[member]}
        self.looked_at = {member: 0 for member in lot}
        self.start = vertex
        self.at = vertex
        self.arcs = []

    def _next_giving(self, vertex):
        """Return the first arc within that leaves a vertex and gives a missing key, or None.

        Keys that are missing only become fewer, so an arc that gave none need not be tried again.
        """
        arcs = self.graph.leaving[vertex]
        while self.looked_at[vertex] < len(arcs):
            arc = arcs[self.looked_at[vertex]]
            if self.graph.targets[arc] in self.is_in and any([key in self.missing for key in self.graph.gives[arc]]):
                return arc
            self.looked_at[vertex] += 1
        return None

    def _is_end(self, vertex):
        """Tell whether the next piece of the tour can end at a vertex."""
        if self.missing:
            return self._next_giving(vertex) is not None
        return vertex == self.start

    def _shortest_piece(self):
        """Return the arcs within that lead from here to the nearest vertex at which this piece can end."""
        came = {self.at: -1}
        waiting = [self.at]
        near = 0
        while not self._is_end(waiting[near]):
            for arc in self.graph.leaving[waiting[near]]:
                target = self.graph.targets[arc]
                if target in self.is_in and target not in came:
                    came[target] = arc
                    waiting.append(target)
            near += 1
        arcs = []
        vertex = waiting[near]
        while vertex != self.at:
            arcs.append(came[vertex])
            vertex = self.graph.sources[came[vertex]]
        return arcs[::-1]

    def _go_along(self, arc):
        """Put an arc behind the tour."""
        self.arcs.append(arc)
        self.at = self.graph.targets[arc]
        for key in self.graph.gives[arc]:
            if key in self.missing:
                del self.missing[key]

    def whole(self):
        """Return the arcs of the tour, led on until no key is missing and back to where it began.

        Each piece ends with an arc that gives a missing key, so there are at most as many pieces as keys, and one back.
        """
        while self.missing:
            for arc in self._shortest_piece():
                self._go_along(arc)
            self._go_along(self._next_giving(self.at))
        for arc in self._shortest_piece():
            self._go_along(arc)
        return tuple(self.arcs)
