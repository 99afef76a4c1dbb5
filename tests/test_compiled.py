"""[12.1] to [12.5]."""

import functools
import itertools
import random
import unittest

from spentframes.codes import Code, deep_code, widened_code
from spentframes.compiled import (
    net_of, net_system, pair_net, pair_of, pair_system, receiver_seats, relay_table, sender_seats)
from spentframes.coursing import each_row, next_frames, shown_state
from spentframes.ends import ack_frame, hear_ack, hear_frame, hear_rise, sent_frame, start_sender
from spentframes.errors import BadPaths, NoRelay, OrderedLink, TooFewPaths, TooManyFrames
from spentframes.flows import greatest_paths, path_nodes
from spentframes.folds import rounds_due
from spentframes.makers import chain_order, flat_order
from spentframes.needs import need_of
from spentframes.nets import Net
from spentframes.quick import quick_code
from spentframes.runs import end_of, round_from
from spentframes.systems import System
from spentframes.verdicts import judge
from tests.helpers import form_orders, raised, random_code, random_net, random_run


@functools.lru_cache(maxsize=None)
def few_codes():
    """Return right codes of 0 to 6 frames."""
    codes = [Code(chain_order(1), 0, []), Code(chain_order(1), 6, [])]
    for at, order in enumerate(form_orders()):
        m = need_of(order)
        for more in (0, 1, 3):
            if m + more <= 6:
                codes += [deep_code(order, m + more), random_code(order, m + more, at), quick_code(order, m + more)]
    return codes


@functools.lru_cache(maxsize=None)
def codes_and_nets():
    """Return (code, net, paths) with as many paths as frames, or more of them."""
    made = []
    for seed in range(200):
        dice = random.Random(seed)
        net = random_net(seed)
        paths = greatest_paths(net, dice.choice([6, 99]))
        codes = [code for code in few_codes()[seed % 3::3] if code.m <= len(paths) and code.order.n < 9]
        if paths and codes:
            code = max(dice.sample(codes, min(4, len(codes))), key=lambda code: code.m)
            made.append((code, net, tuple(dice.sample(paths, len(paths)))))
    return made


def steps_of(code, sender):
    """Return the senders behind each step."""
    rises = {state: hear_rise(code, sender, state) for state in code.order.above(sender[2])}
    frame = sent_frame(sender)
    return rises, {} if frame is None else {frame: hear_ack(code, sender, frame)}


class Case(unittest.TestCase):
    def check_ends(self, code, source, sink, firsts, lasts):
        """Check the tables of the two ends; frame f stands there as the couples firsts[f] and lasts[f]."""
        senders, rows = sender_seats(code), receiver_seats(code)
        self.assertEqual([len(source), len(sink), source.shows, sink.rises], [len(senders), len(rows), None, None])
        for seat, sender in enumerate(senders):
            rises, acks = steps_of(code, sender)
            self.assertEqual(source.sends[seat], tuple(firsts[frame] for frame in acks))
            self.assertEqual(source.moves[seat], tuple(firsts[frame] + (senders.index(acks[frame]),) for frame in acks))
            self.assertEqual(source.rises[seat], tuple((state, senders.index(rises[state])) for state in sorted(rises)))
        for seat, row in enumerate(rows):
            frame = ack_frame(row)
            self.assertEqual(sink.sends[seat], () if frame is None else (lasts[frame],))
            moves = [lasts[new] + (rows.index(hear_frame(row, new)),) for new in next_frames(code, row)]
            self.assertEqual(sink.moves[seat], tuple(sorted(moves)))
            self.assertEqual(sink.shows[seat], shown_state(code, row))

    def check_weave(self, system, due, seed):
        """A weave of deeds, then the due rounds: only right states are shown, and at last the source's own."""
        run = random_run(system, 40, seed)
        standing, order = system.first(), system.order
        for deed in run:
            before, standing = standing, system.after(standing, deed)
            self.assertTrue(order.at_most(system.shown(standing), standing[2]))
            self.assertTrue(order.at_most(system.shown(before), system.shown(standing)))
        for _ in range(due):
            standing = round_from(system, standing)[1]
        self.assertTrue(system.is_settled(standing))
        self.assertEqual(round_from(system, standing)[1], standing)


class Pairs(Case):
    def test_nets(self):
        self.assertTrue(pair_net(0) == Net(2, 0, 1, []))
        for m in range(1, 7):
            self.assertTrue(pair_net(m) == Net(2, 0, 1, [(0, 1, m, "loose")]))

    def test_seats(self):
        for code in few_codes():
            found, waiting = set(), [start_sender()]
            while waiting:
                sender = waiting.pop()
                if sender not in found:
                    found.add(sender)
                    rises, acks = steps_of(code, sender)
                    waiting += list(rises.values()) + list(acks.values())
            seats = sender_seats(code)
            self.assertEqual((seats[0], len(seats), set(seats)), (start_sender(), len(found), found))
            self.assertEqual(receiver_seats(code), tuple(each_row(code)))

    def test_tables_entry_by_entry(self):
        for code in few_codes()[::2]:
            couples = [(0, frame) for frame in range(code.m)]
            tables = pair_of(code)
            self.assertIs(type(tables), tuple)
            self.check_ends(code, *tables, couples, couples)
            system = pair_system(code)
            self.assertTrue(system.net == pair_net(code.m) and system.tables == tables and system.order == code.order)
            self.assertEqual((system.goals, system.spent), (None, ()))

    def test_a_code_by_hand(self):
        code = deep_code(chain_order(2), 1)
        self.assertEqual(sender_seats(code), (((), True, 0), ((0,), False, 1), ((0,), True, 1)))
        source, sink = pair_of(code)
        self.assertEqual((source.sends, source.moves, source.rises),
                         (((), ((0, 0),), ()), ((), ((0, 0, 2),), ()), (((1, 1),), (), ())))
        self.assertEqual((sink.sends, sink.moves, sink.shows), (((), ((0, 0),)), (((0, 0, 1),), ()), (0, 1)))

    def test_any_weave(self):
        for seed, code in enumerate(few_codes()):
            self.check_weave(pair_system(code), 2 * code.m, seed)

    def test_pairs_are_right(self):
        for code in few_codes()[::4]:
            if code.order.n < 7:
                self.assertIsNone(judge(pair_system(code)))


def relays_by_words(net, paths, node):
    """Return (sends, moves) of a relay's table as [12.4] tells them, with seats as tuples of marks."""
    through = []
    for path in paths:
        nodes = path_nodes(net, path)
        if node in nodes[1:-1]:
            at = nodes.index(node)
            through.append(((path[at - 1][0], path[at - 1][2]), (path[at][0], path[at][2])))
    seats = sorted(itertools.product((0, 1, 2), repeat=len(through)))
    sends, moves = [], []
    for marks in seats:
        sent, nexts = [], []
        for at, (coming, going) in enumerate(through):
            sent += {0: [], 1: [going], 2: [going, coming]}[marks[at]]
            if marks[at] < 2:
                behind = list(marks)
                behind[at] += 1
                nexts.append((coming, going)[marks[at]] + (seats.index(tuple(behind)),))
        sends.append(tuple(sorted(sent)))
        moves.append(tuple(sorted(nexts)))
    return tuple(sends), tuple(moves)


class Nets(Case):
    def test_tables_entry_by_entry(self):
        for code, net, paths in codes_and_nets():
            used = paths[:code.m]
            tables = net_of(code, net, [[list(hop) for hop in path] for path in paths])
            self.assertEqual((type(tables), len(tables)), (tuple, net.nodes))
            firsts = [(path[0][0], path[0][2]) for path in used]
            lasts = [(path[-1][0], path[-1][2]) for path in used]
            self.check_ends(code, tables[net.source], tables[net.sink], firsts, lasts)
            for node in range(net.nodes):
                if node not in (net.source, net.sink):
                    table = tables[node]
                    self.assertEqual((table.sends, table.moves), relays_by_words(net, used, node))
                    self.assertEqual((table.rises, table.shows), (None, None))
            system = net_system(code, net, paths)
            self.assertTrue(system.net == net and system.tables == tables and system.order == code.order)

    def test_any_weave(self):
        for seed, (code, net, paths) in enumerate(codes_and_nets()):
            self.check_weave(net_system(code, net, paths), rounds_due(paths, code.m), seed)

    def test_small_nets_are_right(self):
        net = Net(4, 0, 1, [(0, 2, 2, "loose"), (2, 1, 1, "loose"), (3, 2, 1, "loose"), (1, 3, 1, "loose")])
        paths = greatest_paths(net, 99)
        for order in (chain_order(2), chain_order(3), flat_order(3)):
            self.assertIsNone(judge(net_system(deep_code(order, 2), net, paths)))

    def test_any_number_of_paths_from_m_on(self):
        net = Net(3, 0, 2, [(0, 1, 6, "loose"), (0, 1, 6, "loose"), (1, 2, 6, "loose"), (1, 2, 6, "loose")])
        paths = greatest_paths(net, 99)
        self.assertEqual(len(paths), 12)
        for m in (2, 6):
            code = deep_code(flat_order(3), m)
            for many in (m, 6, 7, 12):
                tables = net_of(code, net, paths[:many])
                self.assertEqual((tables[1].sends, tables[1].moves), relays_by_words(net, paths[:m], 1))
                self.assertTrue(net_system(code, net, paths[:many]).tables == tables)

    def test_a_code_of_no_frames(self):
        net = Net(3, 0, 1, [(0, 2, 1, "loose"), (2, 1, 1, "loose")])
        for paths in ((), greatest_paths(net, 1)):
            tables = net_of(Code(chain_order(1), 0, ()), net, paths)
            self.assertEqual([(table.sends, table.moves) for table in tables], [(((),), ((),))] * 3)


class Relays(unittest.TestCase):
    def setUp(self):
        self.net = Net(4, 0, 3, [(0, 1, 6, "loose"), (0, 1, 2, "loose"), (1, 3, 6, "loose"), (3, 1, 3, "loose"), (2, 1, 1, "loose")])
        self.paths = greatest_paths(self.net, 99)

    def test_one_to_six_paths(self):
        self.assertEqual(len(self.paths), 8)
        for many in range(1, 7):
            table = relay_table(self.net, self.paths[:many], 1)
            self.assertEqual(len(table), 3 ** many)
            self.assertEqual((table.sends, table.moves), relays_by_words(self.net, self.paths[:many], 1))

    def test_a_path_by_hand(self):
        table = relay_table(self.net, [[[0, 0, 3], [3, 1, 2]]], 1)
        self.assertEqual(table.sends, ((), ((3, 2),), ((0, 3), (3, 2))))
        self.assertEqual(table.moves, (((0, 3, 1),), ((3, 2, 2),), ()))

    def test_a_node_on_no_path(self):
        table = relay_table(self.net, self.paths[:6], 2)
        self.assertEqual((table.sends, table.moves, table.rises, table.shows), (((),), ((),), None, None))
        self.assertEqual(len(relay_table(self.net, (), 1)), 1)

    def test_thin_ordered_links_are_let(self):
        net = Net(3, 0, 2, [(0, 1, 2, "ordered"), (1, 2, 2, "loose")])
        paths = greatest_paths(net, 99)
        self.assertEqual((relay_table(net, paths, 1).sends, relay_table(net, paths, 1).moves), relays_by_words(net, paths, 1))

    def test_errors_in_their_order(self):
        for node in (0, 3, 4, -1, True, None, "1", 1.0):
            self.assertEqual(raised(self, NoRelay, relay_table, self.net, self.paths, node), {"node": node})
            self.assertEqual(raised(self, BadPaths, relay_table, self.net, [()], node), {"word": "path", "path": 0, "hop": -1})
        for node in (1, 2):
            many = list(self.paths) + [()]
            self.assertEqual(raised(self, BadPaths, relay_table, self.net, many, node), {"word": "path", "path": 8, "hop": -1})
            self.assertEqual(raised(self, TooManyFrames, relay_table, self.net, self.paths, node), {"frames": 8})
            self.assertEqual(raised(self, TooManyFrames, relay_table, self.net, self.paths[1:], node), {"frames": 7})

    def test_paths_past_the_node_count(self):
        net = Net(4, 0, 3, [(0, 1, 6, "loose"), (1, 3, 6, "loose"), (0, 2, 3, "loose"), (2, 3, 3, "loose"), (3, 0, 2, "loose")])
        paths = greatest_paths(net, 99)
        self.assertEqual(len(paths), 11)
        through = {node: [path for path in paths if node in path_nodes(net, path)] for node in (1, 2)}
        past = [path for path in paths if len(path) == 1]
        self.assertEqual([len(through[1]), len(through[2]), len(past)], [6, 3, 2])
        for node, other in ((1, 2), (2, 1)):
            few = through[node][:2] + through[other][:2] + past
            table = relay_table(net, few, node)
            self.assertEqual((len(table), (table.sends, table.moves)), (9, relays_by_words(net, few, node)))
            for more in (few + through[other][2:3], through[other][2:3] + few, few + through[node][2:3]):
                self.assertEqual(raised(self, TooManyFrames, relay_table, net, more, node), {"frames": 7})
            self.assertEqual(raised(self, TooManyFrames, relay_table, net, paths, node), {"frames": 11})


class Wrong(unittest.TestCase):
    def test_six_frames_and_seven(self):
        right = widened_code(deep_code(flat_order(3), 2), 6)
        many = widened_code(right, 7)
        net = Net(2, 0, 1, [(0, 1, 6, "loose"), (0, 1, 1, "loose")])
        paths = greatest_paths(net, 99)
        for call, more in ((sender_seats, ()), (receiver_seats, ()), (pair_of, ()), (pair_system, ()), (net_of, (net, paths)),
                           (net_system, (net, paths))):
            call(right, *more)
            self.assertEqual(raised(self, TooManyFrames, call, many, *more), {"frames": 7})
            self.assertEqual(raised(self, TooManyFrames, call, widened_code(right, 24), *more), {"frames": 24})

    def test_paths_then_frames_then_too_few(self):
        code = deep_code(flat_order(3), 2)
        net = Net(2, 0, 1, [(0, 1, 6, "loose"), (0, 1, 1, "ordered")])
        for call in (net_of, net_system):
            bad = raised(self, BadPaths, call, widened_code(code, 7), net, [[(0, 0, 0)], [(0, 0, 0)]])
            self.assertEqual(bad, {"word": "taken", "path": 1, "hop": 0})
            self.assertEqual(raised(self, BadPaths, call, code, net, None), {"word": "many", "path": -1, "hop": -1})
            self.assertEqual(raised(self, TooManyFrames, call, widened_code(code, 7), net, ()), {"frames": 7})
            self.assertEqual(raised(self, TooFewPaths, call, code, net, ()), {"wanted": 2, "given": 0})
            self.assertEqual(raised(self, TooFewPaths, call, code, net, [[(0, 0, 5)]]), {"wanted": 2, "given": 1})

    def test_ordered_links(self):
        code = deep_code(flat_order(3), 2)
        net = Net(3, 0, 1, [(0, 1, 6, "loose"), (0, 2, 1, "ordered"), (2, 1, 5, "ordered")])
        paths = [[(0, 0, 1)], ((0, 0, 3),)]
        self.assertEqual(len(net_of(code, net, paths)), 3)
        self.assertEqual(raised(self, OrderedLink, net_system, code, net, paths), {"link": 1})
        self.assertEqual(raised(self, TooFewPaths, net_system, code, net, paths[1:]), {"wanted": 2, "given": 1})

    def test_what_is_passed_stays_as_it_was(self):
        code = deep_code(flat_order(3), 2)
        net = Net(2, 0, 1, [(0, 1, 6, "loose")])
        paths = [[[0, 0, 1]], [[0, 0, 3]]]
        system = net_system(code, net, paths)
        relay_table(Net(3, 0, 1, [(0, 2, 1, "loose"), (2, 1, 1, "loose")]), [[[0, 0, 0], [1, 0, 0]]], 2)
        self.assertEqual(paths, [[[0, 0, 1]], [[0, 0, 3]]])
        paths.clear()
        self.assertIsInstance(system, System)
        self.assertEqual(end_of(system, [("rise", 1)])[1], (((3,), ()),) if code.plan_at(0, 2)[0] == (1,) else (((1,), ()),))


if __name__ == "__main__":
    unittest.main()
