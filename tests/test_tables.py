"""[7.4] to [7.6], and of [7.7] what it says of tables."""

import random
import unittest

from spentframes.errors import BadShape, BadTable, BadText, NoSeat
from spentframes.tables import NodeTable, read_table, table_text
from tests.helpers import raised

NO_WHOLES = (True, False, None, "1", 1.0, (1,))
NO_SEQUENCES = (None, "ab", {}, {0: 1}, {1}, 5)
SENDS = ([(3, 1), (0, 5)], [], [(11, 0)])
MOVES = ([(0, 5, 2), (0, 1, 1)], [(11, 3, 0), (1, 3, 1), (1, 0, 2)], [])
RISES = ([(5, 1), (2, 2)], [], [(23, 0), (0, 2)])
SHOWS = (0, 23, 7)


def full():
    return NodeTable(SENDS, MOVES, RISES, SHOWS)


def random_table(seed):
    dice = random.Random(seed)
    seats = dice.choice([1, 2, 5, 9])
    couples = [(link, frame) for link in range(12) for frame in range(6)]

    def seat(key, *more):
        return [row + tuple(dice.randrange(bound) for bound in more) for row in dice.sample(key, dice.randint(0, 4))]

    return NodeTable([seat(couples) for _ in range(seats)], [seat(couples, seats) for _ in range(seats)],
                     dice.choice([None, [seat([(state,) for state in range(24)], seats) for _ in range(seats)]]),
                     dice.choice([None, [dice.randrange(24) for _ in range(seats)]]))


def tables():
    return [full(), NodeTable([[]], [[]]), NodeTable([()], [()], [()], [0])] + [random_table(seed) for seed in range(40)]


class Tables(unittest.TestCase):
    def test_attributes_are_tuples_in_ascending_order(self):
        table = NodeTable([[[3, 1], (0, 5)], (), [(11, 0)]], MOVES, list(RISES), list(SHOWS))
        self.assertEqual(table.sends, (((0, 5), (3, 1)), (), ((11, 0),)))
        self.assertEqual(table.moves, (((0, 1, 1), (0, 5, 2)), ((1, 0, 2), (1, 3, 1), (11, 3, 0)), ()))
        self.assertEqual(table.rises, (((2, 2), (5, 1)), (), ((0, 2), (23, 0))))
        self.assertEqual(table.shows, (0, 23, 7))
        kinds = {type(thing) for thing in (table.sends, table.sends[0], table.sends[0][1], table.moves[0][0],
                                           table.rises[0], table.rises[0][0], table.shows)}
        self.assertEqual(kinds, {tuple})
        self.assertEqual(len(table), 3)
        plain = NodeTable([[]], [[]])
        self.assertEqual((plain.sends, plain.moves, plain.rises, plain.shows), (((),), ((),), None, None))

    def test_what_is_passed_is_neither_changed_nor_kept(self):
        sends, moves, rises, shows = [[[3, 1], [0, 5]]], [[[0, 5, 0], [0, 1, 0]]], [[[5, 0], [2, 0]]], [4]
        table = NodeTable(sends, moves, rises, shows)
        self.assertEqual((sends, moves), ([[[3, 1], [0, 5]]], [[[0, 5, 0], [0, 1, 0]]]))
        self.assertEqual((rises, shows), ([[[5, 0], [2, 0]]], [4]))
        sends[0][0][0] = moves[0][0][2] = rises[0][0][1] = shows[0] = 9
        sends.append([])
        self.assertTrue(table == NodeTable([[(0, 5), (3, 1)]], [[(0, 1, 0), (0, 5, 0)]], [[(2, 0), (5, 0)]], [4]))

    def test_equal_by_all_four(self):
        self.assertTrue(full() == NodeTable([row[::-1] for row in SENDS], [row[::-1] for row in MOVES], RISES, list(SHOWS)))
        self.assertFalse(full() != full())
        for other in (NodeTable(SENDS[::-1], MOVES, RISES, SHOWS), NodeTable(SENDS, MOVES[::-1], RISES, SHOWS),
                      NodeTable(SENDS, MOVES, RISES[::-1], SHOWS), NodeTable(SENDS, MOVES, RISES, SHOWS[::-1]),
                      NodeTable(SENDS, MOVES, None, SHOWS), NodeTable(SENDS, MOVES, RISES), None, (SENDS, MOVES, RISES, SHOWS)):
            self.assertFalse(full() == other)

    def test_50000_seats_and_one_more(self):
        many = 50000
        sends, moves = [[(0, 0)]] * many, [[(11, 5, many - 1)]] * many
        table = NodeTable(sends, moves, [[(23, 49999)]] * many, [23] * many)
        self.assertEqual(len(table), many)
        self.assertEqual(table.next_seat(49998, 11, 5), 49999)
        self.assertEqual(raised(self, NoSeat, table.next_seat, many, 0, 0), {"seat": many})
        self.assertTrue(read_table(table_text(table)) == table)
        more = {"what": "sends", "seat": 0}
        self.assertEqual(raised(self, BadTable, NodeTable, sends + [[]], moves + [[]]), more)
        wrong = moves[:-1] + [[(11, 5, many)]]
        self.assertEqual(raised(self, BadTable, NodeTable, sends, wrong), {"what": "moves", "seat": many - 1})


class Wrong(unittest.TestCase):
    def refused(self, what, seat, *parts):
        self.assertEqual(raised(self, BadTable, NodeTable, *parts), {"what": what, "seat": seat}, parts)

    def test_wrong_numbers_of_seats(self):
        for sends in NO_SEQUENCES + ([], ()):
            self.refused("sends", 0, sends, None, 1, 1)
        for moves in NO_SEQUENCES + ([], [[]], [[]] * 3):
            self.refused("moves", 0, [None, None], moves, 1, 1)
        for rises in NO_SEQUENCES[1:] + ([], [[]], [[]] * 3):
            self.refused("rises", 0, [None, None], [None, None], rises, 1)
            self.refused("shows", 0, [None, None], [None, None], None, rises)
        self.refused("shows", 0, [None], [None], [None], False)

    def test_wrong_sends(self):
        wrong = NO_SEQUENCES + ([None], [()], [(0,)], [(0, 0, 0)], [(12, 0)], [(0, 6)], [(-1, 0)], [(0, -1)], [{0: 0, 1: 1}],
                                ["00"], [(0, 0), (0, 0)], [[0, 1], (0, 1)], [(0, 0), (1, 0), (0, 0)])
        for couples in wrong + tuple([(0, thing)] for thing in NO_WHOLES) + tuple([(thing, 0)] for thing in NO_WHOLES):
            self.refused("sends", 0, [couples, None], [None, None])
            self.refused("sends", 1, [[], couples], [[], None], None, [0, None])

    def test_wrong_moves(self):
        wrong = NO_SEQUENCES + ([None], [()], [(0, 0)], [(0, 0, 0, 0)], [(12, 0, 0)], [(0, 6, 0)], [(0, 0, 2)], [(0, 0, -1)],
                                [(-1, 0, 0)], [(0, -1, 0)], ["000"], [(0, 0, 0), (0, 0, 1)], [[0, 1, 1], (0, 1, 1)])
        for place in range(3):
            wrong += tuple([(0,) * place + (thing,) + (0,) * (2 - place)] for thing in NO_WHOLES)
        for triples in wrong:
            self.refused("moves", 0, [[], None], [triples, None], [None, None])
            self.refused("moves", 1, [[], []], [[], triples], [[], None])

    def test_wrong_rises(self):
        wrong = NO_SEQUENCES + ([None], [()], [(0,)], [(0, 0, 0)], [(24, 0)], [(-1, 0)], [(0, 2)], [(0, -1)], ["00"],
                                [(3, 0), (3, 1)], [[3, 1], (3, 1)])
        for couples in wrong + tuple([(0, thing)] for thing in NO_WHOLES) + tuple([(thing, 0)] for thing in NO_WHOLES):
            self.refused("rises", 0, [[], None], [[], None], [couples, None], [None, None])
            self.refused("rises", 1, [[], []], [[], []], [[], couples], [0, None])

    def test_wrong_shows(self):
        for shown in NO_WHOLES + (24, -1, [1], {}):
            self.refused("shows", 0, [[], None], [[], None], [[], None], [shown, None])
            self.refused("shows", 1, [[], []], [[], []], None, [0, shown])

    def test_a_seat_is_looked_at_before_the_next_one(self):
        self.refused("shows", 0, [[], None], [[], []], [[], []], [24, 0])
        self.refused("sends", 1, [[], None], [[], None], [[], None], [0, None])

    def test_equal_frames_on_unlike_links_may_stand(self):
        table = NodeTable([[(0, 1), (1, 1), (1, 0)]], [[(0, 1, 0), (1, 1, 0), (1, 0, 0)]])
        self.assertEqual(table.sends, (((0, 1), (1, 0), (1, 1)),))


class Steps(unittest.TestCase):
    def test_next_seats_by_the_definition(self):
        for table in tables():
            for seat in range(len(table)):
                for link in range(-1, 13):
                    for frame in range(-1, 7):
                        found = [after for on, what, after in table.moves[seat] if (on, what) == (link, frame)]
                        self.assertEqual(table.next_seat(seat, link, frame), (found + [seat])[0])
                for state in (-5,) + tuple(range(26)):
                    rises = () if table.rises is None else table.rises[seat]
                    found = [after for risen, after in rises if risen == state]
                    self.assertEqual(table.next_on_rise(seat, state), (found + [seat])[0])

    def test_by_hand(self):
        table = full()
        self.assertEqual([table.next_seat(0, 0, frame) for frame in range(6)], [0, 1, 0, 0, 0, 2])
        self.assertEqual([table.next_seat(1, link, 3) for link in (0, 1, 11, 99)], [1, 1, 0, 1])
        self.assertEqual([table.next_on_rise(2, state) for state in (0, 23, 5)], [2, 0, 2])
        self.assertEqual(NodeTable([[]], [[]]).next_on_rise(0, 3), 0)

    def test_no_seats(self):
        for seat in NO_WHOLES + (3, -1, 99):
            self.assertEqual(raised(self, NoSeat, full().next_seat, seat, 0, 0), {"seat": seat})
            self.assertEqual(raised(self, NoSeat, full().next_on_rise, seat, 0), {"seat": seat})
        self.assertEqual(raised(self, NoSeat, NodeTable([[]], [[]]).next_on_rise, 1, 0), {"seat": 1})


class Texts(unittest.TestCase):
    def test_by_hand(self):
        table = NodeTable([[], [(0, 1)]], [[(0, 0, 1)], []], None, [0, 2])
        self.assertEqual(table_text(table), "(table (() ((0 1))) (((0 0 1)) ()) - (0 2))")
        self.assertEqual(table_text(NodeTable([[]], [[]], [[(5, 0), (2, 0)]])), "(table (()) (()) (((2 0) (5 0))) -)")

    def test_texts_lead_back(self):
        for table in tables():
            self.assertTrue(read_table(table_text(table)) == table)

    def test_bad_texts(self):
        for text, place in (("", 0), ("(table (()) (()) - -", 20), ("(table (()) (()) - - )", 21), ("(table 01)", 8)):
            self.assertEqual(raised(self, BadText, read_table, text), {"place": place})

    def test_bad_shapes(self):
        cases = [("-", ()), ("(table (()) (()) -)", ()), ("(net (()) (()) - -)", (0,)), ("(table 1 (()) - -)", (1,)),
                 ("(table (1) (()) - -)", (1, 0)), ("(table ((1)) (()) - -)", (1, 0, 0)), ("(table (((0))) (()) - -)", (1, 0, 0)),
                 ("(table (((12 0))) (()) - -)", (1, 0, 0, 0)), ("(table (((11 6))) (()) - -)", (1, 0, 0, 1)),
                 ("(table (()) - - -)", (2,)), ("(table (()) (((0 0))) - -)", (2, 0, 0)),
                 ("(table (()) (((12 0 0))) - -)", (2, 0, 0, 0)), ("(table (()) (((11 6 0))) - -)", (2, 0, 0, 1)),
                 ("(table (()) (((0 0 50000))) - -)", (2, 0, 0, 2)), ("(table (()) (()) 1 -)", (3,)),
                 ("(table (()) (()) (-) -)", (3, 0)), ("(table (()) (()) (((24 0))) -)", (3, 0, 0, 0)),
                 ("(table (()) (()) (((23 50000))) -)", (3, 0, 0, 1)), ("(table (()) (()) - a)", (4,)),
                 ("(table (()) (()) - (24))", (4, 0)), ("(table (()) (()) - (0 ()))", (4, 1))]
        for text, path in cases:
            self.assertEqual(raised(self, BadShape, read_table, text), {"path": path}, text)

    def test_bad_tables(self):
        cases = [("(table () () - -)", "sends", 0), ("(table (()) () - -)", "moves", 0), ("(table (()) (()) () -)", "rises", 0),
                 ("(table (()) (()) - (1 2))", "shows", 0), ("(table (() ((0 0) (0 0))) (() ()) - -)", "sends", 1),
                 ("(table (() ()) (((11 5 2)) ()) - -)", "moves", 0), ("(table (() ()) (() ()) (() ((1 0) (1 1))) -)", "rises", 1)]
        for text, what, seat in cases:
            self.assertEqual(raised(self, BadTable, read_table, text), {"what": what, "seat": seat}, text)

    def test_text_comes_ahead_of_shape_and_shape_ahead_of_table(self):
        self.assertEqual(raised(self, BadText, read_table, "(table 1 ("), {"place": 10})
        self.assertEqual(raised(self, BadShape, read_table, "(table () () - (24))"), {"path": (4, 0)})
