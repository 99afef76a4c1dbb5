"""[8.1] to [8.4]."""

import copy
import random
import unittest

from spentframes.errors import BadSystem, NoDeed, OrderedLink
from spentframes.makers import chain_order, flat_order
from spentframes.nets import Net
from spentframes.orders import Order
from spentframes.systems import System
from spentframes.tables import NodeTable
from tests.helpers import raised, random_system, relay_system

NO_SEQUENCES = (None, "ab", {}, {0: 1}, 5)
NO_WHOLES = (True, False, None, "1", 1.0)
NO_DEEDS = (None, "rise", 5, {}, {0: "rise", 1: 1}, (), ("rise",), ("rise", 1, 1), ("deliver",), ("deliver", 0, 0), ("rise", True),
            ("deliver", 0, 0, 0, 0), ("send", 0, 0, 0), ("rise", None), ("rise", "1"), ("rise", -1), ("rise", 99), ("rise", (1,)),
            (1, "rise"), ("deliver", 99, 0, 0), ("deliver", -1, 0, 0), ("deliver", 0, 2, 0), ("deliver", 0, -1, 0),
            ("deliver", 0, 0, 99), ("deliver", 0, 0, -1), ("deliver", False, 0, 0), ("deliver", 0, False, 0), ("deliver", 0, 0, False),
            ("deliver", None, None, None), (None, 0, 0, 0), (("deliver",), 0, 0, 0), ["rise", [1]],
            ("fall", 1), (None, 1), ("deliver", 1), ("deliver", 2, 0, 0), ("deliver", 3, 0, 0))


class Model:
    """What [8.1] to [8.4] tell of a system, over sets and without its methods."""

    def __init__(self, system):
        self.system = system
        self.at = [0] * system.net.nodes
        self.sent = set(system.spent) | self.sending()
        self.risen = 0

    def sending(self):
        links, found = self.system.net.links, set()
        for node, table in enumerate(self.system.tables):
            for link, frame in table.sends[self.at[node]]:
                found.add((link, links[link].index(node), frame))
        return found

    def standing(self):
        ways = [tuple(tuple(sorted(f for on, to, f in self.sent if (on, to) == (link, way))) for way in (0, 1))
                for link in range(len(self.system.net.links))]
        return tuple(self.at), tuple(ways), self.risen

    def deeds(self):
        goals, order = self.system.goals, self.system.order
        risen = [state for state in range(order.n) if state in order.above(self.risen)]
        if goals is not None:
            risen = [] if self.risen else sorted(goals)
        return tuple([("deliver",) + triple for triple in sorted(self.sent)] + [("rise", state) for state in risen])

    def do(self, deed):
        net = self.system.net
        node = net.source if deed[0] == "rise" else net.links[deed[1]][1 - deed[2]]
        table = self.system.tables[node]
        if deed[0] == "rise":
            nexts = {state: after for state, after in table.rises[self.at[node]]}
            self.at[node], self.risen = nexts.get(deed[1], self.at[node]), deed[1]
        else:
            nexts = {(link, frame): after for link, frame, after in table.moves[self.at[node]]}
            self.at[node] = nexts.get((deed[1], deed[3]), self.at[node])
        self.sent |= self.sending()


def systems():
    return [random_system(seed, goals=seed % 3 == 0) for seed in range(90)] + [relay_system()]


class Walks(unittest.TestCase):
    def check(self, system, model, standing):
        self.assertEqual(standing, model.standing())
        self.assertEqual(system.deeds_from(standing), model.deeds())
        self.assertEqual(system.sending(standing), tuple(sorted(model.sending())))
        shown = system.tables[system.net.sink].shows[model.at[system.net.sink]]
        self.assertEqual(system.shown(standing), shown)
        quiet = True
        for deed in model.deeds():
            behind = copy.copy(model)
            behind.at, behind.sent = list(model.at), set(model.sent)
            behind.do(deed)
            self.assertEqual(system.after(standing, deed), behind.standing())
            if deed[0] == "deliver" and behind.standing() != standing:
                quiet = False
        self.assertIs(system.is_quiet(standing), quiet)
        self.assertIs(system.is_settled(standing), quiet and shown == model.risen)

    def test_against_a_model(self):
        dice = random.Random(4)
        for system in systems():
            for _ in range(3):
                model, standing = Model(system), system.first()
                for _ in range(25):
                    self.check(system, model, standing)
                    deeds = model.deeds()
                    if not deeds:
                        break
                    deed = dice.choice(deeds)
                    standing = system.after(standing, dice.choice([list, tuple])(deed))
                    model.do(deed)

    def test_standings_are_plain_tuples(self):
        for system in systems():
            standing = system.first()
            at, sent, risen = standing
            self.assertEqual((type(standing), type(at), type(sent), type(risen)), (tuple, tuple, tuple, int))
            for ways in sent:
                self.assertEqual([type(ways), len(ways), type(ways[0]), type(ways[1])], [tuple, 2, tuple, tuple])
            for deed in system.deeds_from(standing):
                self.assertIs(type(deed), tuple)
            self.assertEqual(type(system.deeds_from(standing)), tuple)
            self.assertEqual({type(thing) for thing in (system.sending(standing),) + system.sending(standing)}, {tuple})

    def test_by_hand(self):
        system = relay_system()
        standing = system.first()
        self.assertEqual(standing, ((0, 0, 0), (((), ()), ((), ())), 0))
        self.assertEqual(system.deeds_from(standing), (("rise", 1),))
        self.assertTrue(system.is_settled(standing))
        standing = system.after(standing, ("rise", 1))
        self.assertEqual(standing, ((1, 0, 0), (((0,), ()), ((), ())), 1))
        self.assertEqual(system.deeds_from(standing), (("deliver", 0, 0, 0),))
        self.assertFalse(system.is_quiet(standing))
        standing = system.after(standing, ["deliver", 0, 0, 0])
        self.assertEqual(standing, ((1, 0, 1), (((0,), ()), ((), (0,))), 1))
        self.assertEqual(system.sending(standing), ((0, 0, 0), (1, 1, 0)))
        self.assertEqual(system.after(standing, ("deliver", 0, 0, 0)), standing)
        standing = system.after(standing, ("deliver", 1, 1, 0))
        self.assertEqual(system.shown(standing), 1)
        self.assertFalse(system.is_settled(standing))
        for deed in (("deliver", 1, 0, 0), ("deliver", 0, 1, 0)):
            standing = system.after(standing, deed)
        self.assertEqual(standing, ((2, 1, 2), (((0,), (0,)), ((0,), (0,))), 1))
        self.assertEqual(system.sending(standing), ((0, 1, 0), (1, 0, 0), (1, 1, 0)))
        self.assertEqual(len(system.deeds_from(standing)), 4)
        self.assertTrue(system.is_settled(standing))

    def test_quiet_but_not_settled(self):
        net = Net(2, 0, 1, ())
        system = System(net, [NodeTable([[]], [[]], [[]]), NodeTable([[]], [[]], None, [0])], chain_order(2))
        standing = system.after(system.first(), ("rise", 1))
        self.assertEqual(standing, ((0, 0), (), 1))
        self.assertTrue(system.is_quiet(standing))
        self.assertFalse(system.is_settled(standing))
        self.assertEqual(system.deeds_from(standing), ())

    def test_parts_of_a_standing_that_are_equal_for_equal_systems(self):
        one, other = relay_system(), relay_system()
        standing = one.after(one.first(), ("rise", 1))
        self.assertEqual(other.deeds_from(standing), one.deeds_from(standing))
        self.assertEqual(other.after(standing, ("deliver", 0, 0, 0)), one.after(standing, ("deliver", 0, 0, 0)))

    def test_no_deeds(self):
        system = relay_system()
        risen = system.after(system.first(), ("rise", 1))
        for standing in (system.first(), risen, system.after(risen, ("deliver", 0, 0, 0))):
            for deed in NO_DEEDS + (("deliver", 0, 1, 0), ("rise", 0)):
                told = raised(self, NoDeed, system.after, standing, deed)
                self.assertIs(told["deed"], deed)
        self.assertEqual(raised(self, NoDeed, system.after, risen, ("rise", 1)), {"deed": ("rise", 1)})
        self.assertEqual(raised(self, NoDeed, system.after, system.first(), ["deliver", 0, 0, 0]), {"deed": ["deliver", 0, 0, 0]})

    def test_a_deed_stays_as_it_was(self):
        deed = ["rise", 1]
        relay_system().after(relay_system().first(), deed)
        self.assertEqual(deed, ["rise", 1])


def pair(order, frames=2, goals=None, spent=(), rises=((),), shows=(0,)):
    """Return a system of two nodes that do nothing."""
    net = Net(2, 0, 1, [(0, 1, frames, "loose")])
    nothing = [()] * len(rises)
    return System(net, [NodeTable(nothing, nothing, rises), NodeTable([()] * len(shows), [()] * len(shows), None, shows)],
                  order, goals, spent)


class Rises(unittest.TestCase):
    def test_without_goals_to_any_greater_state(self):
        order = Order(4, [(0, 1), (0, 2), (1, 3)])
        system = pair(order)
        for state in range(4):
            standing = system.after(system.first(), ("rise", state)) if state else system.first()
            self.assertEqual(system.deeds_from(standing), tuple(("rise", above) for above in order.above(state)))
        self.assertEqual(raised(self, NoDeed, system.after, system.after(system.first(), ("rise", 2)), ("rise", 3)),
                         {"deed": ("rise", 3)})

    def test_with_goals_once_and_from_0_alone(self):
        system = pair(chain_order(5), goals=[4, 2])
        self.assertEqual(system.goals, (2, 4))
        self.assertEqual(system.deeds_from(system.first()), (("rise", 2), ("rise", 4)))
        for deed in (("rise", 1), ("rise", 3)):
            raised(self, NoDeed, system.after, system.first(), deed)
        standing = system.after(system.first(), ("rise", 2))
        self.assertEqual(system.deeds_from(standing), ())
        raised(self, NoDeed, system.after, standing, ("rise", 4))

    def test_a_rise_that_the_table_does_not_know_leaves_the_seat(self):
        system = pair(chain_order(3), rises=[[(2, 1)], []])
        self.assertEqual(system.after(system.first(), ("rise", 1)), ((0, 0), (((), ()),), 1))
        self.assertEqual(system.after(system.first(), ("rise", 2)), ((1, 0), (((), ()),), 2))


class Parts(unittest.TestCase):
    def test_attributes(self):
        order = chain_order(9)
        system = pair(order, 2, [8, 1, 7, 2, 6, 3, 5, 4], [[0, 1, 1], (0, 0, 1), (0, 1, 1)])
        self.assertIs(system.order, order)
        self.assertTrue(system.net == Net(2, 0, 1, [(0, 1, 2, "loose")]))
        self.assertEqual(system.goals, (1, 2, 3, 4, 5, 6, 7, 8))
        self.assertEqual(system.spent, ((0, 0, 1), (0, 1, 1)))
        self.assertEqual(pair(order).spent, ())
        self.assertEqual([type(part) for part in (system.goals, system.spent, system.spent[0])], [tuple] * 3)

    def test_spent_frames_are_ascending(self):
        triples = [(0, way, frame) for way in (0, 1) for frame in range(6)]
        for seed in range(9):
            spent = random.Random(seed).sample(triples, 12)
            self.assertEqual(pair(chain_order(2), 6, None, spent + spent[:3]).spent, tuple(triples))

    def test_spent_frames_can_be_delivered(self):
        system = pair(chain_order(2), 2, None, [(0, 1, 1), (0, 0, 0)])
        self.assertEqual(system.first(), ((0, 0), (((0,), (1,)),), 0))
        self.assertEqual(system.deeds_from(system.first()), (("deliver", 0, 0, 0), ("deliver", 0, 1, 1), ("rise", 1)))
        self.assertEqual(system.sending(system.first()), ())

    def test_what_is_passed_is_neither_changed_nor_kept(self):
        net = Net(2, 0, 1, [(0, 1, 2, "loose")])
        tables = [NodeTable([[]], [[]], [[]]), NodeTable([[]], [[]], None, [0])]
        goals, spent = [2, 1], [[0, 1, 1], [0, 0, 0]]
        system = System(net, tables, chain_order(3), goals, spent)
        self.assertEqual((len(tables), goals, spent), (2, [2, 1], [[0, 1, 1], [0, 0, 0]]))
        tables.clear()
        goals.append(7)
        spent[0][2] = 0
        self.assertEqual((len(system.tables), system.goals, system.spent), (2, (1, 2), ((0, 0, 0), (0, 1, 1))))


class Wrong(unittest.TestCase):
    def setUp(self):
        self.net = Net(3, 1, 2, [(0, 1, 2, "loose"), (1, 2, 1, "loose"), (2, 0, 3, "loose")])
        self.order = chain_order(3)
        self.relay = NodeTable([[(2, 2)]], [[(0, 1, 0)]])
        self.source = NodeTable([[]], [[]], [[(2, 0)]])
        self.sink = NodeTable([[]], [[]], None, [2])
        System(self.net, [self.relay, self.source, self.sink], self.order)

    def refused(self, node, what, relay=None, source=None, sink=None, goals=None, spent=(), net=None):
        tables = [relay or self.relay, source or self.source, sink or self.sink]
        told = raised(self, BadSystem, System, net or self.net, tables, self.order, goals, spent)
        self.assertEqual(told, {"node": node, "what": what})

    def test_many(self):
        two = [self.relay, self.source]
        for tables in NO_SEQUENCES + (two, two + [self.sink] * 2, ()):
            told = raised(self, BadSystem, System, self.net, tables, self.order, 5, 5)
            self.assertEqual(told, {"node": 0, "what": "many"})

    def test_tables(self):
        for thing in (5, "x", (self.relay.sends, self.relay.moves), self.net):
            self.refused(0, "table", relay=thing, source=5, goals=5)
            self.refused(2, "table", sink=thing)

    def test_rises(self):
        self.refused(1, "rises", source=self.relay, sink=5)
        self.refused(0, "rises", relay=NodeTable([[(9, 0)]], [[]], [[]], [0]))
        self.refused(2, "rises", sink=NodeTable([[]], [[]], [[]]))
        self.refused(1, "rises", source=NodeTable([[]], [[]], None, [0]))

    def test_shows(self):
        self.refused(0, "shows", relay=NodeTable([[(9, 0)]], [[]], None, [0]))
        self.refused(1, "shows", source=NodeTable([[(9, 0)]], [[]], [[]], [0]))
        self.refused(2, "shows", sink=NodeTable([[(9, 0)]], [[]]))

    def test_links(self):
        self.refused(0, "link", relay=NodeTable([[], [(1, 0)]], [[], []]))
        self.refused(0, "link", relay=NodeTable([[], []], [[], [(3, 0, 0)]]))
        # The frame of the first seat is wrong, too, but the word "link" comes first.
        self.refused(1, "link", source=NodeTable([[(0, 5)], [(2, 0)]], [[], []], [[(9, 0)], []]))
        self.refused(2, "link", sink=NodeTable([[(11, 5)]], [[]], None, [9]))

    def test_frames(self):
        self.refused(0, "frame", relay=NodeTable([[], [(0, 2)]], [[], []]))
        self.refused(0, "frame", relay=NodeTable([[], []], [[], [(2, 3, 0)]]))
        self.refused(1, "frame", source=NodeTable([[(1, 1)]], [[]], [[(9, 0)]]))
        self.refused(2, "frame", sink=NodeTable([[(2, 0)]], [[(1, 5, 0)]], None, [9]))

    def test_states(self):
        self.refused(1, "rise", source=NodeTable([[], []], [[], []], [[], [(3, 0)]]), sink=5)
        self.refused(2, "show", sink=NodeTable([[], []], [[], []], None, [0, 3]), goals=5)

    def test_nodes_are_looked_at_one_by_one(self):
        self.refused(0, "frame", relay=NodeTable([[(0, 2)]], [[]]), source=5, sink=5)
        self.refused(1, "rise", source=NodeTable([[]], [[]], [[(3, 0)]]), sink=self.relay)

    def test_goals(self):
        for goals in NO_SEQUENCES[1:] + ([], (), [0], [3], [-1], [1, 1], [2, 1, 2], [True], [1, None], ["1"], [[1]], [1, 2] * 4,
                                         list(range(1, 10))):
            self.refused(1, "goals", goals=goals, spent=5)
        many = list(range(1, 10))
        tables = [self.relay, self.source, self.sink]
        told = raised(self, BadSystem, System, self.net, tables, chain_order(12), many)
        self.assertEqual(told, {"node": 1, "what": "goals"})
        self.assertEqual(System(self.net, tables, chain_order(12), many[:8]).goals, tuple(many[:8]))

    def test_spent(self):
        wrong = [(3, 0, 0), (-1, 0, 0), (0, 2, 0), (0, -1, 0), (0, 0, 2), (1, 1, 1), (0, 0, -1), (0, 0), (0, 0, 0, 0), None, "000", 5,
                 {0: 0, 1: 0, 2: 0}] + [(thing, 0, 0) for thing in NO_WHOLES] + [(0, thing, 0) for thing in NO_WHOLES]
        for triple in wrong + [(0, 0, thing) for thing in NO_WHOLES]:
            self.refused(0, "spent", spent=[(0, 0, 0), triple])
        for spent in NO_SEQUENCES:
            self.refused(0, "spent", spent=spent)

    def test_ordered_links_come_last(self):
        net = Net(3, 1, 2, [(0, 1, 2, "loose"), (1, 2, 1, "ordered"), (2, 0, 3, "ordered")])
        tables = [self.relay, self.source, self.sink]
        self.assertEqual(raised(self, OrderedLink, System, net, tables, self.order), {"link": 1})
        thick = Net(3, 1, 2, [(0, 1, 2, "ordered"), (1, 2, 1, "loose"), (2, 0, 3, "ordered")])
        self.assertEqual(raised(self, OrderedLink, System, thick, tables, self.order), {"link": 0})
        last = Net(3, 1, 2, [(0, 1, 2, "loose"), (1, 2, 1, "loose"), (2, 0, 3, "ordered")])
        self.assertEqual(raised(self, OrderedLink, System, last, tables, self.order), {"link": 2})
        self.refused(0, "spent", spent=[(3, 0, 0)], net=net)
        self.refused(1, "goals", goals=[], net=net)
        self.refused(2, "show", sink=NodeTable([[]], [[]], None, [3]), net=net)

    def test_no_links(self):
        net = Net(2, 0, 1, ())
        tables = [NodeTable([[]], [[]], [[]]), NodeTable([[]], [[]], None, [0])]
        self.assertEqual(System(net, tables, flat_order(2)).first(), ((0, 0), (), 0))
        told = raised(self, BadSystem, System, net, tables, flat_order(2), None, [(0, 0, 0)])
        self.assertEqual(told, {"node": 0, "what": "spent"})


class ManySeats(unittest.TestCase):
    def test_50000_seats(self):
        many = 50000
        net = Net(2, 0, 1, [(0, 1, 6, "loose")])
        source = NodeTable([[(0, seat % 6)] for seat in range(many)], [[(0, 0, (seat + 1) % many)] for seat in range(many)],
                           [[(1, many - 1)]] * many)
        sink = NodeTable([[]] * many, [[(0, 1, many - 1)]] * many, None, [seat % 2 for seat in range(many)])
        system = System(net, [source, sink], chain_order(2))
        standing = system.after(system.first(), ("rise", 1))
        self.assertEqual(standing, ((many - 1, 0), (((0, 1), ()),), 1))
        self.assertEqual(system.shown(system.after(standing, ("deliver", 0, 0, 1))), 1)
        wrong = NodeTable([[]] * (many - 1) + [[(1, 0)]], [[]] * many, None, [0] * many)
        self.assertEqual(raised(self, BadSystem, System, net, [source, wrong], chain_order(2)), {"node": 1, "what": "link"})
