"""The parts into which a paper takes the vertices of a graph, step by step."""

from spentframes.wholes import is_sequence, is_whole


class Parts:
    """The vertices of a graph in numbered parts; at first all of them are part 0.

    A part stands in a box of its own. A step puts the lesser number of vertices into a new box, whichever part they
    belong to behind it, so that many steps over one great part are quick.
    """

    def __init__(self, graph):
        self.graph = graph
        self.boxes = [{vertex: True for vertex in range(len(graph.wants))}]
        self.box_of = [0] * len(graph.wants)
        self.box_of_part = [0]
        self.giving = {}
        self.wanting = {}
        for arc, keys in enumerate(graph.gives):
            for key in keys:
                self.giving.setdefault(key, []).append(arc)
        for vertex, keys in enumerate(graph.wants):
            for key in keys:
                self.wanting.setdefault(key, []).append(vertex)

    def are_empty(self):
        """Tell whether no vertex is left in a part."""
        return not any([len(box) > 0 for box in self.boxes])

    def do_step(self, step):
        """Do a step and return None, or return the word of what is wrong with it."""
        if not is_sequence(step) or len(step) != 3 or not is_whole(step[0], 0, len(self.box_of_part) - 1):
            return "step"
        part, word, what = step
        if word == "apart":
            return self._take_apart(part, what)
        if word == "key" and is_whole(what):
            return self._let_leave(self.box_of_part[part], what)
        return "step"

    def _are_members(self, box, lower):
        """Tell whether a thing is a sequence of unlike vertices of a box."""
        if not is_sequence(lower) or not all([is_whole(vertex) for vertex in lower]):
            return False
        return all([vertex in self.boxes[box] for vertex in lower]) and len(set(lower)) == len(lower)

    def _take_apart(self, part, lower):
        """Leave these vertices to a part and put its others into a new part; return the word of what is wrong."""
        box = self.box_of_part[part]
        if not self._are_members(box, lower):
            return "lower"
        kept = {vertex: True for vertex in lower}
        for vertex in lower:
            for arc in self.graph.coming[vertex]:
                start = self.graph.sources[arc]
                if self.box_of[start] == box and start not in kept:
                    return "arc"
        if 2 * len(kept) <= len(self.boxes[box]):
            self.box_of_part.append(box)
            self.box_of_part[part] = self._put_into_new_box(list(kept))
        else:
            others = [vertex for vertex in self.boxes[box] if vertex not in kept]
            self.box_of_part.append(self._put_into_new_box(others))
        return None

    def _put_into_new_box(self, vertices):
        """Put vertices of one box into a new one and return the number of this one."""
        new = len(self.boxes)
        self.boxes.append({vertex: True for vertex in vertices})
        for vertex in vertices:
            del self.boxes[self.box_of[vertex]][vertex]
            self.box_of[vertex] = new
        return new

    def _is_given(self, box, key):
        """Tell whether an arc within a box gives a key; what is less to look at is looked at."""
        graph = self.graph
        arcs = self.giving.get(key, [])
        if len(arcs) > len(self.boxes[box]):
            leaving = [arc for vertex in self.boxes[box] for arc in graph.leaving[vertex]]
            arcs = [arc for arc in leaving if key in graph.gives[arc]]
        return any([self.box_of[graph.sources[arc]] == box and self.box_of[graph.targets[arc]] == box for arc in arcs])

    def _let_leave(self, box, key):
        """Take the vertices that want a key out of a box; return the word of what is wrong."""
        if self._is_given(box, key):
            return "given"
        vertices = self.wanting.get(key, [])
        if len(vertices) > len(self.boxes[box]):
            vertices = [vertex for vertex in self.boxes[box] if key in self.graph.wants[vertex]]
        for vertex in list(vertices):
            if self.box_of[vertex] == box:
                del self.boxes[box][vertex]
                self.box_of[vertex] = -1
        return None
