"""Nets: nodes, a source and a sink among them, and the links that join them."""

from spentframes.datatext import data_text
from spentframes.errors import BadNet, NoLink, NoNode, NoWay
from spentframes.shapes import read_shaped
from spentframes.wholes import is_sequence, is_whole

MOST_NODES = 6
MOST_LINKS = 12
MOST_LINK_FRAMES = 6
_NET_SHAPE = (
    "parts", ("the", "net"), ("whole", 0, 6), ("whole", 0, 5), ("whole", 0, 5),
    ("row", ("parts", ("whole", 0, 5), ("whole", 0, 5), ("whole", 0, 6),
             ("either", ("the", "loose"), ("the", "ordered")))))


def _check_nodes(nodes, source, sink):
    """Raise BadNet if there is no such number of nodes or the source and the sink are no two of them."""
    if not is_whole(nodes, 2, MOST_NODES):
        raise BadNet("nodes", 0)
    if not is_whole(source, 0, nodes - 1):
        raise BadNet("source", 0)
    if not is_whole(sink, 0, nodes - 1) or sink == source:
        raise BadNet("sink", 0)


def _link_fault(nodes, link):
    """Return the word of what is wrong with a link, or None."""
    if not is_sequence(link) or len(link) != 4:
        return "link"
    one, other, frames, kind = link
    if not is_whole(one, 0, nodes - 1) or not is_whole(other, 0, nodes - 1) or one == other:
        return "ends"
    if not is_whole(frames, 1, MOST_LINK_FRAMES):
        return "frames"
    return None if kind in ("loose", "ordered") else "kind"


class Net:
    """Nodes, numbered from 0, and links (one, other, frames, kind) between them."""

    def __init__(self, nodes, source, sink, links):
        _check_nodes(nodes, source, sink)
        if not is_sequence(links) or len(links) > MOST_LINKS:
            raise BadNet("many", 0)
        for at, link in enumerate(links):
            word = _link_fault(nodes, link)
            if word is not None:
                raise BadNet(word, at)
        self.nodes = nodes
        self.source = source
        self.sink = sink
        self.links = tuple([tuple(link) for link in links])

    def __len__(self):
        return len(self.links)

    def __eq__(self, other):
        return (isinstance(other, Net) and self.nodes == other.nodes and self.source == other.source
                and self.sink == other.sink and self.links == other.links)

    def _check_link(self, link):
        """Raise NoLink if the net does not have a link."""
        if not is_whole(link, 0, len(self.links) - 1):
            raise NoLink(link)

    def _way_ends(self, link, way):
        """Return the node from which a way leads and the one to which it leads."""
        self._check_link(link)
        if not is_whole(way, 0, 1):
            raise NoWay(way)
        one, other = self.links[link][:2]
        return (one, other) if way == 0 else (other, one)

    def sender(self, link, way):
        """Return the node from which a way of a link leads."""
        return self._way_ends(link, way)[0]

    def receiver(self, link, way):
        """Return the node to which a way of a link leads."""
        return self._way_ends(link, way)[1]

    def links_of(self, node):
        """Return the numbers of the links that join a node, ascending."""
        if not is_whole(node, 0, self.nodes - 1):
            raise NoNode(node)
        return tuple([at for at, link in enumerate(self.links) if node in link[:2]])

    def with_link(self, link):
        """Return the net with one more link behind the others."""
        return Net(self.nodes, self.source, self.sink, self.links + (link,))

    def without_link(self, link):
        """Return the net without a link; the number of each later one falls by one."""
        self._check_link(link)
        return Net(self.nodes, self.source, self.sink, self.links[:link] + self.links[link + 1:])


def is_triple(net, thing):
    """Tell whether a thing is a triple (link, way, frame) of a net."""
    if not is_sequence(thing) or len(thing) != 3:
        return False
    link, way, frame = thing
    if not is_whole(link, 0, len(net) - 1) or not is_whole(way, 0, 1):
        return False
    return is_whole(frame, 0, net.links[link][2] - 1)


def net_text(net):
    """Return the text of a net."""
    return data_text(("net", net.nodes, net.source, net.sink, net.links))


def read_net(text):
    """Return the net of a text."""
    _, nodes, source, sink, links = read_shaped(text, _NET_SHAPE)
    return Net(nodes, source, sink, links)
