"""[7.1] to [7.3], and of [7.7] what it says of nets."""

import unittest

from spentframes.errors import BadNet, BadShape, BadText, NoLink, NoNode, NoWay
from spentframes.nets import Net, net_text, read_net
from tests.helpers import random_net, raised

NO_WHOLES = (True, False, None, "1", 1.0, (1,))
LINKS = ((0, 1, 1, "loose"), (1, 2, 6, "ordered"), (2, 0, 3, "loose"), (1, 0, 2, "loose"))


def square():
    return Net(4, 0, 2, LINKS)


def nets():
    made = [Net(2, 0, 1, []), Net(6, 5, 0, ()), square(), Net(2, 1, 0, [(0, 1, 6, "ordered")] * 12)]
    return made + [random_net(seed, loose=False) for seed in range(40)]


class Nets(unittest.TestCase):
    def test_attributes(self):
        net = Net(4, 3, 1, [[0, 1, 1, "loose"], (3, 2, 6, "ordered")])
        self.assertEqual((net.nodes, net.source, net.sink), (4, 3, 1))
        self.assertEqual(net.links, ((0, 1, 1, "loose"), (3, 2, 6, "ordered")))
        self.assertEqual({type(net.links), type(net.links[0])}, {tuple})
        self.assertEqual(len(net), 2)
        self.assertEqual(len(Net(2, 0, 1, [])), 0)
        self.assertEqual(len(Net(2, 0, 1, [(0, 1, 6, "loose")] * 12)), 12)

    def test_what_is_passed_is_neither_changed_nor_kept(self):
        links = [[0, 1, 1, "loose"], [1, 2, 2, "loose"]]
        net = Net(3, 0, 2, links)
        self.assertEqual(links, [[0, 1, 1, "loose"], [1, 2, 2, "loose"]])
        links[0][2] = 5
        links.append((0, 1, 1, "loose"))
        self.assertEqual(net.links, ((0, 1, 1, "loose"), (1, 2, 2, "loose")))

    def test_equal_by_nodes_ends_and_links(self):
        self.assertTrue(square() == Net(4, 0, 2, [list(link) for link in LINKS]))
        self.assertFalse(square() != square())
        for other in (Net(5, 0, 2, LINKS), Net(4, 1, 2, LINKS), Net(4, 0, 3, LINKS), Net(4, 0, 2, LINKS[:3]),
                      Net(4, 0, 2, LINKS[::-1]), Net(4, 0, 2, LINKS[:3] + ((0, 1, 2, "loose"),)), LINKS, None):
            self.assertFalse(square() == other)

    def refused(self, what, at, *parts):
        self.assertEqual(raised(self, BadNet, Net, *parts), {"what": what, "at": at}, parts)

    def test_wrong_nodes_and_ends(self):
        for nodes in NO_WHOLES + (1, 7, 0, -2):
            self.refused("nodes", 0, nodes, 9, 9, None)
        for source in NO_WHOLES + (4, -1):
            self.refused("source", 0, 4, source, 9, None)
        for sink in NO_WHOLES + (4, -1, 0):
            self.refused("sink", 0, 4, 0, sink, None)
        self.assertEqual(Net(2, 1, 0, ()).sink, 0)
        self.assertEqual(Net(6, 0, 5, ()).nodes, 6)

    def test_wrong_links(self):
        for links in (None, "ab", {}, {1: 2}, 3, [(0, 1, 1, "loose")] * 13, [None] * 13):
            self.refused("many", 0, 4, 0, 2, links)
        good = (0, 1, 1, "loose")
        for link in (None, "abcd", 4, (), (0, 1, 1), good + (1,), {0: 1, 1: 1, 2: 1, 3: 1}, dict(enumerate(good))):
            self.refused("link", 0, 4, 0, 2, [link, (9, 9, 9, 9)])
            self.refused("link", 2, 4, 0, 2, [good, good, link])
        for end in NO_WHOLES + (4, -1, 0):
            if end is not False:
                self.refused("ends", 1, 4, 0, 2, [good, (0, end, 9, "none")])
                self.refused("ends", 1, 4, 0, 2, [good, [end, 0, 9, "none"]])
        self.refused("ends", 0, 4, 0, 2, [(3, 3, 1, "loose")])
        for frames in NO_WHOLES + (0, 7, -1):
            self.refused("frames", 1, 4, 0, 2, [good, (0, 1, frames, "none")])
        for kind in (None, 1, "", "Loose", "order", True, ("loose",), ["loose"], {}):
            self.refused("kind", 1, 4, 0, 2, [good, (0, 1, 6, kind)])

    def test_links_are_looked_at_one_by_one(self):
        self.refused("kind", 0, 4, 0, 2, [(0, 1, 1, "x"), None])
        self.refused("frames", 1, 4, 0, 2, [(0, 1, 1, "loose"), (0, 1, 0, "x"), (0, 0, 1, "x")])

    def test_ways(self):
        net = square()
        for at, (one, other, _, _) in enumerate(LINKS):
            self.assertEqual((net.sender(at, 0), net.receiver(at, 0)), (one, other))
            self.assertEqual((net.sender(at, 1), net.receiver(at, 1)), (other, one))
        for call in (net.sender, net.receiver):
            for link in NO_WHOLES + (4, -1):
                self.assertEqual(raised(self, NoLink, call, link, 7), {"link": link})
            for way in NO_WHOLES + (2, -1):
                self.assertEqual(raised(self, NoWay, call, 3, way), {"way": way})
        self.assertEqual(raised(self, NoLink, Net(2, 0, 1, ()).sender, 0, 0), {"link": 0})

    def test_links_of_a_node(self):
        self.assertEqual([square().links_of(node) for node in range(4)], [(0, 2, 3), (0, 1, 3), (1, 2), ()])
        for node in NO_WHOLES + (4, -1):
            self.assertEqual(raised(self, NoNode, square().links_of, node), {"node": node})

    def test_the_errors_hold_what_was_passed(self):
        link = [3]
        self.assertIs(raised(self, NoLink, square().sender, link, 0)["link"], link)
        self.assertIs(raised(self, NoNode, square().links_of, link)["node"], link)


class Edits(unittest.TestCase):
    def test_one_more_link(self):
        net = square()
        more = net.with_link([3, 0, 5, "ordered"])
        self.assertTrue(more == Net(4, 0, 2, LINKS + ((3, 0, 5, "ordered"),)))
        self.assertEqual(net.links, LINKS)
        self.assertEqual(len(Net(2, 0, 1, [(0, 1, 1, "loose")] * 11).with_link((0, 1, 1, "loose"))), 12)

    def test_wrong_links(self):
        full = Net(2, 0, 1, [(0, 1, 1, "loose")] * 12)
        for link in ((0, 1, 1, "loose"), None):
            self.assertEqual(raised(self, BadNet, full.with_link, link), {"what": "many", "at": 0})
        for link, what in ((None, "link"), ((0, 4, 9, 9), "ends"), ((0, 1, 7, 9), "frames"), ((0, 1, 1, 9), "kind")):
            self.assertEqual(raised(self, BadNet, square().with_link, link), {"what": what, "at": 4})
            self.assertEqual(raised(self, BadNet, Net(2, 0, 1, ()).with_link, None), {"what": "link", "at": 0})

    def test_one_link_less(self):
        net = square()
        for at in range(4):
            self.assertTrue(net.without_link(at) == Net(4, 0, 2, LINKS[:at] + LINKS[at + 1:]))
        self.assertEqual(net.links, LINKS)
        for link in NO_WHOLES + (4, -1):
            self.assertEqual(raised(self, NoLink, net.without_link, link), {"link": link})
        self.assertEqual(raised(self, NoLink, Net(2, 0, 1, ()).without_link, 0), {"link": 0})

    def test_there_and_back(self):
        for net in nets():
            if len(net) < 12:
                self.assertTrue(net.with_link((0, 1, 1, "loose")).without_link(len(net)) == net)


class Texts(unittest.TestCase):
    def test_by_hand(self):
        net = Net(3, 2, 0, [(0, 1, 1, "loose"), (2, 1, 6, "ordered")])
        self.assertEqual(net_text(net), "(net 3 2 0 ((0 1 1 loose) (2 1 6 ordered)))")
        self.assertEqual(net_text(Net(2, 0, 1, [])), "(net 2 0 1 ())")

    def test_texts_lead_back(self):
        for net in nets():
            self.assertTrue(read_net(net_text(net)) == net)

    def test_bad_texts(self):
        for text, place in (("", 0), ("(net 2 0 1 ()", 13), ("(net 2 0 1  ())", 11), ("(net 02 0 1 ())", 6)):
            self.assertEqual(raised(self, BadText, read_net, text), {"place": place})

    def test_bad_shapes(self):
        cases = [("7", ()), ("(net 2 0 1)", ()), ("(net 2 0 1 () ())", ()), ("(nets 2 0 1 ())", (0,)), ("(net 7 0 1 ())", (1,)),
                 ("(net a 0 1 ())", (1,)), ("(net 2 6 1 ())", (2,)), ("(net 2 0 6 ())", (3,)), ("(net 2 0 - ())", (3,)),
                 ("(net 2 0 1 -)", (4,)), ("(net 2 0 1 (3))", (4, 0)), ("(net 2 0 1 ((0 1 1)))", (4, 0)),
                 ("(net 2 0 1 ((6 1 1 loose)))", (4, 0, 0)), ("(net 2 0 1 ((0 6 1 loose)))", (4, 0, 1)),
                 ("(net 2 0 1 ((0 1 7 loose)))", (4, 0, 2)), ("(net 2 0 1 ((0 1 1 loose) (0 1 1 lose)))", (4, 1, 3)),
                 ("(net 2 0 1 ((0 1 1 (loose))))", (4, 0, 3))]
        for text, path in cases:
            self.assertEqual(raised(self, BadShape, read_net, text), {"path": path}, text)

    def test_bad_nets(self):
        cases = [("(net 1 0 1 ())", "nodes", 0), ("(net 0 5 5 ())", "nodes", 0), ("(net 2 2 1 ())", "source", 0),
                 ("(net 2 0 0 ())", "sink", 0), ("(net 2 0 1 ((0 0 1 loose)))", "ends", 0),
                 ("(net 2 0 1 ((0 1 1 loose) (0 1 0 loose)))", "frames", 1),
                 ("(net 2 0 1 (" + " ".join(["(0 1 1 loose)"] * 13) + "))", "many", 0)]
        for text, what, at in cases:
            self.assertEqual(raised(self, BadNet, read_net, text), {"what": what, "at": at}, text)

    def test_text_comes_ahead_of_shape_and_shape_ahead_of_net(self):
        self.assertEqual(raised(self, BadText, read_net, "(net 9 0 1 ("), {"place": 12})
        self.assertEqual(raised(self, BadShape, read_net, "(net 1 0 1 ((0 0 1 tight)))"), {"path": (4, 0, 3)})


class RandomNets(unittest.TestCase):
    def test_they_are_of_all_sizes(self):
        sizes = {(net.nodes, len(net)) for net in (random_net(seed, loose=False) for seed in range(300))}
        self.assertEqual({nodes for nodes, _ in sizes}, set(range(2, 7)))
        self.assertEqual({many for _, many in sizes}, set(range(13)))
