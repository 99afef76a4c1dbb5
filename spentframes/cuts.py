"""Cuts: sides of a net, the frames that lead across them, and the side with the fewest."""

from spentframes.errors import BadSide
from spentframes.wholes import is_sequence, is_whole

LEAST_THICK = 3


def is_thick(net, link):
    """Tell whether a link is ordered and has so many frames that any number of paths can be told over it."""
    _, _, frames, kind = net.links[link]
    return kind == "ordered" and frames >= LEAST_THICK


def check_side(net, side):
    """Return a side as an ascending tuple, or raise BadSide."""
    if not is_sequence(side) or not all([is_whole(node, 0, net.nodes - 1) for node in side]):
        raise BadSide("nodes")
    if len(set(side)) != len(side):
        raise BadSide("nodes")
    if net.source not in side:
        raise BadSide("source")
    if net.sink in side:
        raise BadSide("sink")
    return tuple(sorted(side))


def _ways_across(net, side):
    """Return the couples (link, way) that lead out of a side, ascending."""
    ways = []
    for link in range(len(net)):
        for way in range(2):
            if net.sender(link, way) in side and net.receiver(link, way) not in side:
                ways.append((link, way))
    return ways


def frames_across(net, side):
    """Return the triples (link, way, frame) of all frames of the ways that lead out of a side, ascending."""
    ways = _ways_across(net, check_side(net, side))
    return tuple([(link, way, frame) for link, way in ways for frame in range(net.links[link][2])])


def count_across(net, side):
    """Return the number of frames across a side, None if a thick link leads across."""
    ways = _ways_across(net, check_side(net, side))
    if any([is_thick(net, link) for link, _ in ways]):
        return None
    return sum([net.links[link][2] for link, _ in ways])


def count_unsent(net, side, sent):
    """Return how many of the frames across a side were not sent."""
    return len([frame for link, way, frame in frames_across(net, side) if frame not in sent[link][way]])


def each_side(net):
    """Yield all sides of a net, by length, then ascending."""
    sides = [(net.source,)]
    for node in range(net.nodes):
        if node not in (net.source, net.sink):
            sides = sides + [tuple(sorted(side + (node,))) for side in sides]
    for side in sorted(sides, key=lambda one: (len(one), one)):
        yield side


def least_cut(net):
    """Return (size, side): the least size, and the side of this size that all others of it contain.

    (None, None) if a thick link leads across each side.
    """
    least = (None, None)
    for side in each_side(net):
        size = count_across(net, side)
        # The shorter sides come first, and of those of the least size the shortest lies within all others.
        if size is not None and (least[0] is None or size < least[0]):
            least = (size, side)
    return least
