"""Paths: as many ways for frames from the source to the sink as a net has."""

from spentframes.cuts import count_across, is_thick, least_cut
from spentframes.errors import BadPaths
from spentframes.nets import is_triple
from spentframes.rows import check_count
from spentframes.wholes import is_sequence

MOST_PATHS = 99


def _is_hop(net, hop):
    """Tell whether a thing is a hop (link, way, frame) of a net; over a thick link the frame must be 0."""
    return is_triple(net, hop) and (hop[2] == 0 or not is_thick(net, hop[0]))


def _hop_word(net, taken, nodes, hop):
    """Return the word of what is wrong with a hop behind these nodes of its path, or None.

    The ways of the couples (link, frame) of earlier paths stand in `taken`.
    """
    if not _is_hop(net, hop):
        return "hop"
    link, way, frame = hop
    if net.sender(link, way) != nodes[-1]:
        return "start"
    if net.receiver(link, way) in nodes:
        return "node"
    if (link, frame) in taken and not (is_thick(net, link) and taken[(link, frame)] == way):
        return "taken"
    return None


def _path_fault(net, taken, path):
    """Return (word, hop) of the first fault of a path, or None."""
    if not is_sequence(path) or len(path) == 0:
        return "path", -1
    nodes = [net.source]
    for at, hop in enumerate(path):
        word = _hop_word(net, taken, nodes, hop)
        if word is not None:
            return word, at
        nodes.append(net.receiver(hop[0], hop[1]))
    return None if nodes[-1] == net.sink else ("end", len(path) - 1)


def paths_fault(net, paths):
    """Return None if paths are right, else (word, path, hop) of the first fault."""
    if not is_sequence(paths) or len(paths) > MOST_PATHS:
        return "many", -1, -1
    taken = {}
    for at, path in enumerate(paths):
        fault = _path_fault(net, taken, path)
        if fault is not None:
            word, hop = fault
            return word, at, hop
        for link, way, frame in path:
            taken[(link, frame)] = way
    return None


def check_paths(net, paths):
    """Return right paths as tuples, or raise BadPaths."""
    fault = paths_fault(net, paths)
    if fault is not None:
        word, path, hop = fault
        raise BadPaths(word, path, hop)
    return tuple([tuple([tuple(hop) for hop in path]) for path in paths])


def path_nodes(net, path):
    """Return the nodes of a path, from the source to the sink; the path is not checked."""
    return (net.source,) + tuple([net.receiver(link, way) for link, way, _ in path])


def _has_room(net, flow, link, way):
    """Tell whether one more path can go along a way; `flow` tells how many go along way 0, less those along way 1."""
    going = flow[link] if way == 0 else -flow[link]
    return is_thick(net, link) or going < net.links[link][2]


def shortest_route(net, ways):
    """Return the ways on a route from the source to the sink, of these couples (link, way); None if there is none."""
    routes = {net.source: ()}
    waiting = [net.source]
    while waiting:
        node = waiting.pop(0)
        for link, way in ways:
            target = net.receiver(link, way)
            if net.sender(link, way) == node and target not in routes:
                routes[target] = routes[node] + ((link, way),)
                waiting.append(target)
    return routes.get(net.sink)


def _greatest_flow(net, most):
    """Return (flow, many): how many paths go along each link, and how many there are, at most so many."""
    flow = [0] * len(net)
    for many in range(most):
        # A path may go against an earlier one: both together leave the link unused there.
        ways = [(link, way) for link in range(len(net)) for way in range(2) if _has_room(net, flow, link, way)]
        route = shortest_route(net, ways)
        if route is None:
            return flow, many
        for link, way in route:
            flow[link] += 1 if way == 0 else -1
    return flow, most


def greatest_paths(net, most):
    """Return right paths, as many as there can be but at most so many."""
    check_count(most, MOST_PATHS)
    flow, many = _greatest_flow(net, most)
    used = [0] * len(net)
    paths = []
    for _ in range(many):
        ways = [(link, 0 if flow[link] > 0 else 1) for link in range(len(net)) if flow[link] != 0]
        path = []
        for link, way in shortest_route(net, ways):
            flow[link] -= 1 if way == 0 else -1
            path.append((link, way, 0 if is_thick(net, link) else used[link]))
            used[link] += 1
        paths.append(tuple(path))
    return tuple(paths)


def more_paths(net, paths, most):
    """Return the right paths themselves if they are enough or as many as there can be, else the greatest paths."""
    right = check_paths(net, paths)
    check_count(most, MOST_PATHS)
    if len(right) >= most or len(right) == least_cut(net)[0]:
        return right
    return greatest_paths(net, most)


def side_of_paths(net, paths):
    """Return the least side of the net that shows that there are no more paths, or None if there can be more."""
    right = check_paths(net, paths)
    size, side = least_cut(net)
    return side if len(right) == size else None


def is_tight(net, side, paths):
    """Tell whether paths are right and as many as the size of a side."""
    size = count_across(net, side)
    return paths_fault(net, paths) is None and len(paths) == size


def free_paths(net, paths, sent):
    """Return the numbers of the right paths of which no frame was sent on either way, ascending."""
    free = []
    for at, path in enumerate(check_paths(net, paths)):
        if not any([frame in sent[link][0] or frame in sent[link][1] for link, _, frame in path]):
            free.append(at)
    return tuple(free)
