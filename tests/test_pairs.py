"""[14.1] to [14.4]."""

import functools
import random
import unittest

from spentframes.errors import BadCount, BadPair, BadRun, BadSystem, LongTail, NoDeed, TooMany
from spentframes.makers import chain_order, flat_order
from spentframes.ordered import ordered_pair
from spentframes.orders import Order
from spentframes.outcomes import Above, Back, Stuck
from spentframes.pairs import OrderedPair, judge_pair, pair_end, pair_loop_fault, pair_round, pair_run_fault
from spentframes.tables import NodeTable
from tests.helpers import form_orders, raised
from tests.test_systems import NO_SEQUENCES
from tests.test_verdicts import greatest_lots

NO_DEEDS = (None, 5, "read", {}, (), ("rise",), ("read", 0), ("read", 0, 0, 0), ("read", 2, 0), ("read", -1, 0), ("read", True, 0),
            ("read", 0, True), ("read", 0, -1), ("read", 0, None), ("read", "0", 0), ("rise", True), ("rise", 0), ("rise", 99),
            ("rise", None), ("rise", [1]), (("read",), 0, 0), ("deliver", 0, 0, 0), ("fall", 1), (1, "rise"), (None, 0, 0))


def table(dice, frames, order, seats, is_source, often=0.8):
    """Return a node table that sends at most one frame from each seat."""
    sends = [[(0, dice.randrange(frames))] if dice.random() < often else [] for _ in range(seats)]
    moves = [[(0, frame, dice.randrange(seats)) for frame in range(frames) if dice.random() < often] for _ in range(seats)]
    rises = [[(state, dice.randrange(seats)) for state in range(order.n) if dice.random() < often] for _ in range(seats)]
    shows = [0] + [dice.randrange(order.n) for _ in range(seats - 1)]
    return NodeTable(sends, moves, rises if is_source else None, None if is_source else shows)


def random_pair(seed, seats=5):
    dice = random.Random(seed)
    order = dice.choice([order for order in form_orders() if 1 < order.n < 8])
    frames = dice.randint(1, 4)
    tables = [table(dice, frames, order, dice.randint(1, seats), is_source) for is_source in (True, False)]
    goals = dice.sample(range(1, order.n), dice.randint(1, order.n - 1)) if seed % 3 == 0 else None
    return OrderedPair(order, frames, tables, goals)


def one_way(shows, frames=2, echo=False):
    """Return a pair over a chain whose source sends frame s - 1 in seat s, its state, and whose sink shows by frames.

    The sink's seat behind frame f is f + 1; with `echo` it sends what it read last.
    """
    n = frames + 1
    source = NodeTable([[]] + [[(0, f)] for f in range(frames)], [[]] * n, [[(s, s) for s in range(1, n)]] * n)
    sends = [[]] + [[(0, f)] if echo else [] for f in range(frames)]
    sink = NodeTable(sends, [[(0, f, f + 1) for f in range(frames)]] * n, None, shows)
    return OrderedPair(chain_order(n), frames, [source, sink])


class Model:
    """What [14.1] and [14.2] tell of a pair, with lists."""

    def __init__(self, pair):
        self.pair, self.at, self.risen = pair, [0, 0], 0
        self.lines = [[None, []], [None, []]]
        self.put(0)
        self.put(1)

    def put(self, node):
        last, tail = self.lines[node]
        for _, frame in self.pair.tables[node].sends[self.at[node]]:
            newest = tail[-1] if tail else last
            if newest != frame:
                tail.append(frame)

    def standing(self):
        return tuple(self.at), tuple((last, tuple(tail)) for last, tail in self.lines), self.risen

    def deeds(self):
        found = [("read", way, k) for way in (0, 1) for k in range(len(self.lines[way][1]) + 1)
                 if k or self.lines[way][0] is not None]
        goals, order = self.pair.goals, self.pair.order
        rises = [state for state in range(order.n) if state in order.above(self.risen)]
        if goals is not None:
            rises = [] if self.risen else sorted(goals)
        return tuple(found + [("rise", state) for state in rises])

    def do(self, deed):
        if deed[0] == "rise":
            node, self.risen = 0, deed[1]
            nexts = dict(self.pair.tables[0].rises[self.at[0]])
            self.at[0] = nexts.get(deed[1], self.at[0])
        else:
            node, line = 1 - deed[1], self.lines[deed[1]]
            if deed[2]:
                line[0] = line[1][deed[2] - 1]
                del line[1][:deed[2]]
            nexts = {frame: after for _, frame, after in self.pair.tables[node].moves[self.at[node]]}
            self.at[node] = nexts.get(line[0], self.at[node])
        self.put(node)


def random_deeds(pair, many, seed):
    dice, model, run = random.Random(seed), Model(pair), []
    for _ in range(many):
        if model.deeds():
            run.append(dice.choice(model.deeds()))
            model.do(run[-1])
    return run, model


class Walks(unittest.TestCase):
    def test_against_a_model(self):
        for seed in range(150):
            pair, dice = random_pair(seed), random.Random(seed)
            model, standing = Model(pair), pair.first()
            for _ in range(30):
                self.assertEqual(standing, model.standing())
                self.assertEqual(pair.deeds_from(standing), model.deeds())
                self.assertEqual(pair.shown(standing), pair.tables[1].shows[model.at[1]])
                sending = [(node, frame) for node in (0, 1) for _, frame in pair.tables[node].sends[model.at[node]]]
                self.assertEqual(pair.sending(standing), tuple(sending))
                if not model.deeds():
                    break
                deed = dice.choice(model.deeds())
                standing = pair.after(standing, dice.choice([list, tuple])(deed))
                model.do(deed)

    def test_by_hand(self):
        pair = one_way([0, 1, 2], echo=True)
        standing = pair.first()
        self.assertEqual(standing, ((0, 0), ((None, ()), (None, ())), 0))
        self.assertEqual(pair.deeds_from(standing), (("rise", 1), ("rise", 2)))
        standing = pair.after(pair.after(standing, ("rise", 1)), ("rise", 2))
        self.assertEqual(standing, ((2, 0), ((None, (0, 1)), (None, ())), 2))
        self.assertEqual(pair.deeds_from(standing), (("read", 0, 1), ("read", 0, 2)))
        skipped = pair.after(standing, ["read", 0, 2])
        self.assertEqual(skipped, ((2, 2), ((1, ()), (None, (1,))), 2))
        standing = pair.after(standing, ("read", 0, 1))
        self.assertEqual(standing, ((2, 1), ((0, (1,)), (None, (0,))), 2))
        # What is read again is sent back once alone, as it does not differ from the newest frame.
        self.assertEqual(pair.after(standing, ("read", 0, 0)), standing)
        self.assertEqual(pair.deeds_from(standing), (("read", 0, 0), ("read", 0, 1), ("read", 1, 1)))
        self.assertEqual(pair.sending(standing), ((0, 1), (1, 0)))
        self.assertEqual(pair.shown(standing), 1)

    def test_no_deeds(self):
        pair = one_way([0, 1, 2], echo=True)
        for run in ([], [("rise", 1)], [("rise", 1), ("read", 0, 1)]):
            standing = pair_end(pair, run)
            for deed in NO_DEEDS + (("read", 0, 2), ("read", 1, 2)):
                self.assertIs(raised(self, NoDeed, pair.after, standing, deed)["deed"], deed)
        self.assertEqual(raised(self, NoDeed, pair.after, pair.first(), ["read", 0, 0]), {"deed": ["read", 0, 0]})

    def test_attributes(self):
        order, goals = chain_order(3), [2, 1]
        pair = OrderedPair(order, 2, list(one_way([0, 1, 2]).tables), goals)
        self.assertEqual((pair.order, pair.frames, type(pair.tables), pair.goals), (order, 2, tuple, (1, 2)))
        goals.append(5)
        self.assertEqual(pair.goals, (1, 2))
        self.assertIsNone(one_way([0, 1, 2]).goals)


class Wrong(unittest.TestCase):
    def test_frames(self):
        for frames in (0, 7, -1, True, None, "2", 2.0):
            self.assertEqual(raised(self, BadCount, OrderedPair, None, frames, None), {"most": 6})

    def test_systems(self):
        order = chain_order(3)
        source, sink = one_way([0, 1, 2]).tables
        for tables in NO_SEQUENCES + ([source], [source, sink, sink]):
            self.assertEqual(raised(self, BadSystem, OrderedPair, order, 2, tables, 5), {"node": 0, "what": "many"})
        cases = [([5, sink], 0, "table"), ([sink, 5], 0, "rises"), ([source, source], 1, "rises"), ([source, 5], 1, "table"),
                 ([NodeTable([[(1, 0), (1, 1)]], [[]], [[]]), sink], 0, "link"), ([NodeTable([[(0, 2)]], [[]], [[]]), sink], 0, "frame"),
                 ([source, NodeTable([[]], [[]], None, [3])], 1, "show"), ([NodeTable([[]], [[]], [[(3, 0)]]), sink], 0, "rise")]
        for tables, node, what in cases:
            self.assertEqual(raised(self, BadSystem, OrderedPair, order, 2, tables), {"node": node, "what": what})
        for goals in ([], [0], [3], [1, 1], 5, [True], ()):
            self.assertEqual(raised(self, BadSystem, OrderedPair, order, 2, [source, sink], goals), {"node": 0, "what": "goals"})

    def test_more_than_one_frame(self):
        order = chain_order(3)
        source, sink = one_way([0, 1, 2]).tables
        loud = NodeTable([[], [(0, 0), (0, 1)], [(0, 1), (0, 0)]], [[]] * 3, [[]] * 3)
        echo = NodeTable([[(0, 0), (0, 1)]], [[]], None, [0])
        self.assertEqual(raised(self, BadPair, OrderedPair, order, 2, [loud, echo]), {"node": 0, "seat": 1})
        self.assertEqual(raised(self, BadPair, OrderedPair, order, 2, [source, echo]), {"node": 1, "seat": 0})
        self.assertEqual(raised(self, BadSystem, OrderedPair, order, 1, [loud, echo]), {"node": 0, "what": "frame"})


class Runs(unittest.TestCase):
    def test_ends(self):
        for seed in range(60):
            run, model = random_deeds(random_pair(seed), 20, seed)
            self.assertEqual(pair_end(model.pair, run), model.standing())
            for place in (0, len(run) // 2, len(run)):
                bent = run[:place] + [("rise", 0)] + run[place:]
                self.assertEqual(raised(self, BadRun, pair_end, model.pair, bent), {"place": place})

    def test_run_faults(self):
        words = set()
        for seed in range(400):
            pair = random_pair(seed)
            run, _ = random_deeds(pair, 12, seed)
            if seed % 4 == 0:
                run.insert(len(run) // 2, None)
            fault, model, before = None, Model(pair), 0
            for place in range(len(run) + 1):
                shown = pair.tables[1].shows[model.at[1]]
                if not pair.order.at_most(shown, model.risen):
                    fault = ("above", place)
                elif not pair.order.at_most(before, shown):
                    fault = ("back", place)
                elif place < len(run) and run[place] not in model.deeds():
                    fault = ("deed", place)
                if fault or place == len(run):
                    break
                model.do(run[place])
                before = shown
            self.assertEqual(pair_run_fault(pair, run), fault)
            words.add(fault and fault[0])
        self.assertEqual(words, {None, "above", "back", "deed"})
        for thing in NO_SEQUENCES:
            self.assertEqual(pair_run_fault(one_way([0, 1, 2]), thing), ("deed", 0))

    def test_rounds(self):
        for seed in range(100):
            run, model = random_deeds(random_pair(seed), 15, seed)
            deeds, standing = pair_round(model.pair, model.standing())
            wanted = []
            for way in (0, 1):
                last, tail = model.lines[way]
                if tail or last is not None:
                    wanted.append(("read", way, 1 if tail else 0))
                    model.do(wanted[-1])
            self.assertEqual((deeds, standing), (tuple(wanted), model.standing()))


class Loops(unittest.TestCase):
    def fault(self, pair, run, loop):
        """[14.3], word by word."""
        model = Model(pair)
        for word, deeds in (("run", run), ("deed", loop)):
            start, standings, read, further = model.standing(), [model.standing()], set(), set()
            for deed in deeds:
                if deed not in model.deeds():
                    return word
                if deed[0] == "read":
                    last, tail = model.lines[deed[1]]
                    read.add((deed[1], ([last] + tail)[deed[2]]))
                    further |= {deed[1]} if deed[2] else set()
                model.do(deed)
                standings.append(model.standing())
        if standings[-1] != start:
            return "open"
        sending = {couple for standing in standings for couple in pair.sending(standing)}
        if not sending <= read or any(start[1][way][1] and way not in further for way, _ in sending):
            return "unfair"
        return None if any(pair.shown(standing) != standing[2] for standing in standings) else "told"

    def test_against_the_words(self):
        words = {}
        for seed in range(900):
            pair, dice = random_pair(seed, 3), random.Random(seed)
            run, _ = random_deeds(pair, 5, seed)
            seen, standing, rounds = [], pair_end(pair, run), []
            while standing not in seen and len(seen) < 40:
                seen.append(standing)
                deeds, standing = pair_round(pair, standing)
                rounds.append(list(deeds))
            if standing in seen and dice.random() < 0.6:
                run += sum(rounds[:seen.index(standing)], [])
                loop = sum(rounds[seen.index(standing):], [])
            else:
                loop = dice.choices(Model(pair).deeds() + (("read", 0, 0), ("read", 1, 0)), k=dice.randint(0, 3))
            fault = self.fault(pair, run, loop)
            words[fault] = words.get(fault, 0) + 1
            self.assertEqual(pair_loop_fault(pair, run, loop), fault)
            self.assertEqual(pair_loop_fault(pair, tuple(run), tuple(list(deed) for deed in loop)), fault)
        self.assertEqual(set(words), {None, "deed", "open", "unfair", "told"})

    def test_words_in_their_order(self):
        pair = one_way([0, 1, 1], echo=True)
        for thing in NO_SEQUENCES:
            self.assertEqual(pair_loop_fault(pair, thing, thing), "run")
            self.assertEqual(pair_loop_fault(pair, [], thing), "deed")
        self.assertEqual(pair_loop_fault(pair, [("rise", 0)], None), "run")
        self.assertEqual(pair_loop_fault(pair, [("rise", 2)], [("read", 0, 1)]), "open")
        self.assertEqual(pair_loop_fault(pair, [("rise", 2)], []), "unfair")
        run = [("rise", 2), ("read", 0, 1), ("read", 1, 1)]
        self.assertEqual(pair_loop_fault(pair, run, [("read", 0, 0)]), "unfair")
        self.assertIsNone(pair_loop_fault(pair, run, [("read", 0, 0), ("read", 1, 0)]))
        self.assertEqual(pair_loop_fault(pair, [("rise", 1), ("read", 0, 1), ("read", 1, 1)], [("read", 0, 0), ("read", 1, 0)]), "told")

    def test_a_tail_that_is_never_read(self):
        # The source sends frame 0 and then frame 1, 0: the last frame of the tail is what it sends, but is not read.
        source = NodeTable([[], [(0, 0)], [(0, 1)], [(0, 0)]], [[]] * 4, [[(1, 1), (2, 2), (3, 3)]] * 4)
        sink = NodeTable([[]], [[]], None, [0])
        pair = OrderedPair(chain_order(4), 2, [source, sink])
        run = [("rise", 1), ("read", 0, 1), ("rise", 2), ("rise", 3)]
        self.assertEqual(pair_end(pair, run), ((3, 0), ((0, (1, 0)), (None, ())), 3))
        self.assertEqual(pair_loop_fault(pair, run, [("read", 0, 0)]), "unfair")
        self.assertIsNone(pair_loop_fault(pair, run + [("read", 0, 2)], [("read", 0, 0)]))


def search(pair):
    """Return the first run to each standing with tails of at most 8, and whether a deed makes a longer one."""
    found, level, is_long = {pair.first(): ()}, [pair.first()], False
    while level:
        more = []
        for standing in level:
            for deed in pair.deeds_from(standing):
                behind = pair.after(standing, deed)
                if max(len(tail) for _, tail in behind[1]) > 8:
                    is_long = True
                elif behind not in found:
                    found[behind] = found[standing] + (deed,)
                    more.append(behind)
        level = more
        if len(found) > 400:
            return None, False
    return found, is_long


@functools.lru_cache(maxsize=None)
def searched():
    """Return pairs with what the search finds."""
    found = []
    orders = [chain_order(3), flat_order(3), Order(3, [(0, 1), (0, 2)])]
    pairs = [random_pair(seed, 3) for seed in range(250)] + [one_way(shows, 2, echo) for echo in (False, True)
             for shows in ([0, 1, 2], [0, 1, 1], [0, 2, 1], [0, 0, 2], [0, 1, 0], [1, 1, 1])]
    pairs += [ordered_pair(order, m) for order in orders for m in (2, 3)]
    for pair in pairs:
        standings, is_long = search(pair)
        if standings is not None:
            found.append((pair, standings, is_long))
    return found


def breaks(pair, outcome):
    """[9.5] with [14.3]."""
    if isinstance(outcome, Stuck):
        return pair_loop_fault(pair, outcome.run, outcome.loop) is None
    end = pair_end(pair, outcome.run)
    if isinstance(outcome, Above):
        return not pair.order.at_most(pair.shown(end), end[2])
    return not pair.order.at_most(pair.shown(pair_end(pair, outcome.run[:-1])), pair.shown(end))


class Judging(unittest.TestCase):
    def verdict(self, pair, standings):
        order = pair.order
        if any(not order.at_most(pair.shown(standing), standing[2]) for standing in standings):
            return Above
        for standing in standings:
            for deed in pair.deeds_from(standing):
                if not order.at_most(pair.shown(standing), pair.shown(pair.after(standing, deed))):
                    return Back
        wrong = [standing for standing in standings if pair.shown(standing) != standing[2]]
        wants, arcs = [], []
        for standing in wrong:
            sending = pair.sending(standing)
            wants.append([couple for couple in sending] + [way for way, _ in sending if standing[1][way][1]])
            for deed in pair.deeds_from(standing):
                if deed[0] == "read" and pair.after(standing, deed) in wrong:
                    last, tail = standing[1][deed[1]]
                    keys = [(deed[1], ((last,) + tail)[deed[2]])] + [deed[1]] * (deed[2] > 0)
                    arcs.append((len(wants) - 1, wrong.index(pair.after(standing, deed)), keys))
        return Stuck if greatest_lots(wants, arcs) else type(None)

    def test_against_a_search(self):
        kinds = set()
        for pair, standings, is_long in searched():
            if is_long:
                self.assertEqual(raised(self, LongTail, judge_pair, pair), {})
                kinds.add(LongTail)
                continue
            found = judge_pair(pair)
            kinds.add(type(found))
            self.assertIs(type(found), self.verdict(pair, standings))
            self.assertTrue(found is None or breaks(pair, found))
        self.assertEqual(kinds, {type(None), Above, Back, Stuck, LongTail})

    def test_as_many_as_let(self):
        for pair, standings, is_long in searched()[::7]:
            many = len(standings)
            if is_long:
                raised(self, LongTail, judge_pair, pair, many)
            else:
                self.assertEqual(type(judge_pair(pair, many)), type(judge_pair(pair)))
            if many > 1:
                # More standings than let come ahead of long tails.
                self.assertEqual(raised(self, TooMany, judge_pair, pair, many - 1), {"most": many - 1})

    def rising_chain(self, n):
        """Return a pair whose source puts another frame at each rise, and whose sink goes on with each new frame."""
        source = NodeTable([[]] + [[(0, k % 2)] for k in range(n - 1)], [[]] * n, [[(k, k) for k in range(1, n)]] * n)
        sink = NodeTable([[]], [[]], None, [0])
        return OrderedPair(chain_order(n), 2, [source, sink])

    def test_tails_of_eight_and_nine(self):
        self.assertIsInstance(judge_pair(self.rising_chain(9)), Stuck)
        raised(self, LongTail, judge_pair, self.rising_chain(10))

    def test_one_standing(self):
        nothing = [NodeTable([[]], [[]], [[]]), NodeTable([[]], [[]], None, [0])]
        self.assertIsNone(judge_pair(OrderedPair(chain_order(1), 1, nothing), 1))
        found = judge_pair(OrderedPair(chain_order(2), 1, nothing), 2)
        self.assertEqual(found, Stuck([("rise", 1)], []))


if __name__ == "__main__":
    unittest.main()
