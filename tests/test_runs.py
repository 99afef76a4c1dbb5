"""[8.5] to [8.10]."""

import random
import unittest

from spentframes.datatext import data_text
from spentframes.errors import BadRun, BadShape, BadText
from spentframes.makers import chain_order, flat_order
from spentframes.nets import Net
from spentframes.orders import Order
from spentframes.runs import (
    end_of, lean_run, loop_fault, read_run, round_from, run_fault, run_text, view_of, walk)
from spentframes.systems import System
from spentframes.tables import NodeTable
from tests.helpers import raised, random_run, random_system, relay_system

RISE = ("rise", 1)
THERE = (("deliver", 0, 0, 0), ("deliver", 1, 1, 0))
BACK = (("deliver", 1, 0, 0), ("deliver", 0, 1, 0))
NO_SEQUENCES = (None, "ab", {}, {0: RISE}, 5, {RISE})


def showing(order, shows, frames=2, spent=()):
    """Return a system whose sink goes to seat f + 1 on frame f; the source sends in seat s the frame s - 1."""
    net = Net(2, 0, 1, [(0, 1, frames, "loose")])
    seats = range(frames + 1)
    rises = [[(state, min(state, frames)) for state in range(order.n)] for _ in seats]
    source = NodeTable([[(0, seat - 1)] if seat else [] for seat in seats], [[] for _ in seats], rises)
    sink = NodeTable([[] for _ in seats], [[(0, frame, frame + 1) for frame in range(frames)] for _ in seats], None, shows)
    return System(net, [source, sink], order, None, spent)


def systems():
    return [random_system(seed, goals=seed % 4 == 0) for seed in range(60)] + [relay_system()]


class Walks(unittest.TestCase):
    def test_standing_by_standing(self):
        for at, system in enumerate(systems()):
            run = random_run(system, 12, at)
            standing, wanted = system.first(), [system.first()]
            for deed in run:
                standing = system.after(standing, deed)
                wanted.append(standing)
            self.assertEqual(list(walk(system, run)), wanted)
            self.assertEqual(list(walk(system, [list(deed) for deed in run])), wanted)
            self.assertEqual(end_of(system, run), standing)
            lean = tuple(deed for k, deed in enumerate(run) if wanted[k] != wanted[k + 1])
            self.assertEqual(lean_run(system, run), lean)
            self.assertEqual(lean_run(system, [list(deed) for deed in run]), lean)
            self.assertEqual(end_of(system, lean), standing)

    def test_by_hand(self):
        system = relay_system()
        run = (RISE, THERE[0], THERE[0], THERE[1], THERE[0])
        self.assertEqual(lean_run(system, run), (RISE,) + THERE)
        self.assertEqual([standing[0] for standing in walk(system, run)],
                         [(0, 0, 0), (1, 0, 0), (1, 0, 1), (1, 0, 1), (1, 1, 1), (1, 1, 1)])

    def test_empty_runs(self):
        for system in systems():
            for run in ((), []):
                self.assertEqual(list(walk(system, run)), [system.first()])
                self.assertEqual(end_of(system, run), system.first())
                self.assertEqual(lean_run(system, run), ())

    def test_deeds_that_cannot_be_done(self):
        system = relay_system()
        for wrong in (RISE, ("deliver", 1, 1, 0), None, (), "rise", ("rise", True), ("deliver", 9, 0, 0)):
            for run in ((RISE, wrong), [RISE, wrong, wrong], (RISE, wrong, RISE)):
                for call in (end_of, lean_run, lambda *given: list(walk(*given))):
                    self.assertEqual(raised(self, BadRun, call, system, run), {"place": 1}, run)
        self.assertEqual(raised(self, BadRun, end_of, system, [THERE[0]]), {"place": 0})
        self.assertEqual(raised(self, BadRun, end_of, system, (RISE,) + THERE + (RISE,)), {"place": 3})

    def test_a_run_stays_as_it_was(self):
        run = [["rise", 1], ["deliver", 0, 0, 0]]
        for call in (end_of, lean_run, run_fault, lambda *given: list(walk(*given))):
            call(relay_system(), run)
        loop_fault(relay_system(), run, run)
        self.assertEqual(run, [["rise", 1], ["deliver", 0, 0, 0]])


def run_fault_by_words(system, run):
    """Return the first fault as [8.6] tells it, from the lists of what holds at each place."""
    standings, cut = [system.first()], None
    for place, deed in enumerate(run):
        if deed not in system.deeds_from(standings[-1]):
            cut = place
            break
        standings.append(system.after(standings[-1], deed))
    at_most = system.order.at_most
    found = [(place, 2, "deed") for place in [cut] if place is not None]
    found += [(k, 0, "above") for k, one in enumerate(standings) if not at_most(system.shown(one), one[2])]
    found += [(k, 1, "back") for k in range(1, len(standings))
              if not at_most(system.shown(standings[k - 1]), system.shown(standings[k]))]
    return (min(found)[2], min(found)[0]) if found else None


class RunFaults(unittest.TestCase):
    def test_against_the_words(self):
        words = set()
        for at, system in enumerate(systems() * 3):
            run = list(random_run(system, 10, 1000 + at))
            dice = random.Random(at)
            if dice.random() < 0.3:
                run.insert(dice.randrange(len(run) + 1), ("deliver", 0, 0, 5))
            fault = run_fault_by_words(system, run)
            words.add(fault and fault[0])
            self.assertEqual(run_fault(system, run), fault)
            self.assertEqual(run_fault(system, tuple(run)), fault)
        self.assertEqual(words, {None, "above", "back", "deed"})

    def test_above(self):
        system = showing(chain_order(3), [0, 2, 1])
        self.assertEqual(run_fault(system, [("rise", 1), ("deliver", 0, 0, 0)]), ("above", 2))
        self.assertIsNone(run_fault(system, [("rise", 2), ("deliver", 0, 0, 1)]))
        self.assertEqual(run_fault(showing(chain_order(3), [1, 1, 1]), ()), ("above", 0))

    def test_back(self):
        run = [("rise", 1), ("deliver", 0, 0, 0), ("rise", 2), ("deliver", 0, 0, 1), ("deliver", 0, 0, 0)]
        self.assertEqual(run_fault(showing(chain_order(3), [0, 1, 2]), run), ("back", 5))
        self.assertIsNone(run_fault(showing(chain_order(3), [0, 1, 2]), run[:4]))

    def test_aside_counts_as_back(self):
        order = Order(4, [(0, 1), (0, 2), (1, 3), (2, 3)])
        run = [("rise", 1), ("deliver", 0, 0, 0), ("rise", 3), ("deliver", 0, 0, 1)]
        self.assertEqual(run_fault(showing(order, [0, 1, 2]), run), ("back", 4))

    def test_above_comes_ahead_of_back_and_both_ahead_of_deed(self):
        system = showing(chain_order(3), [1, 2, 0])
        self.assertEqual(run_fault(system, [None]), ("above", 0))
        order = Order(4, [(0, 1), (0, 2), (1, 3), (2, 3)])
        system = showing(order, [0, 2, 1], spent=[(0, 0, 0), (0, 0, 1)])
        run = [("rise", 1), ("deliver", 0, 0, 1), ("deliver", 0, 0, 0), ("rise", 9)]
        self.assertEqual(run_fault(system, run), ("above", 3))
        self.assertEqual(run_fault(showing(chain_order(3), [0, 1, 2], spent=[(0, 0, 0)]), [("rise", 2), ("rise", 2)]), ("deed", 1))
        system = showing(chain_order(3), [0, 2, 1], spent=[(0, 0, 0), (0, 0, 1)])
        run = [("rise", 2), ("deliver", 0, 0, 0), ("deliver", 0, 0, 1), ("rise", 9)]
        self.assertEqual(run_fault(system, run), ("back", 3))

    def test_deed(self):
        self.assertEqual(run_fault(relay_system(), [THERE[0]]), ("deed", 0))
        self.assertEqual(run_fault(relay_system(), [RISE, THERE[0], None]), ("deed", 2))

    def test_no_sequences(self):
        for system in (relay_system(), showing(chain_order(3), [1, 1, 1])):
            for thing in NO_SEQUENCES:
                self.assertEqual(run_fault(system, thing), ("deed", 0))

    def test_empty_runs(self):
        self.assertIsNone(run_fault(relay_system(), ()))
        self.assertIsNone(run_fault(relay_system(), []))


def loop_fault_by_words(system, run, loop):
    """Return the word of [8.7], with sets of triples."""
    standings = [system.first()]
    for word, deeds in (("run", run), ("deed", loop)):
        standings = standings[-1:]
        for deed in deeds:
            if deed not in system.deeds_from(standings[-1]):
                return word
            standings.append(system.after(standings[-1], deed))
    if standings[0] != standings[-1]:
        return "open"
    sent = {triple for standing in standings for triple in system.sending(standing)}
    if not sent <= {deed[1:] for deed in loop if deed[0] == "deliver"}:
        return "unfair"
    return None if any(system.shown(standing) != standing[2] for standing in standings) else "told"


class LoopFaults(unittest.TestCase):
    def test_against_the_words(self):
        words = set()
        for at, system in enumerate(systems() * 3):
            dice = random.Random(at)
            run = random_run(system, 6, at)
            deeds, standing = run, end_of(system, run)
            if dice.random() < 0.7:
                for _ in range(6):
                    more, standing = round_from(system, standing)
                    deeds += more
                loop = round_from(system, standing)[0]
            else:
                loop = tuple(dice.choices(system.deeds_from(standing) or [RISE], k=dice.randint(0, 3)))
            fault = loop_fault_by_words(system, deeds, loop)
            words.add(fault)
            self.assertEqual(loop_fault(system, deeds, loop), fault)
            self.assertEqual(loop_fault(system, list(deeds), [list(deed) for deed in loop]), fault)
        self.assertEqual(words, {None, "deed", "open", "unfair", "told"})

    def test_a_stuck_loop(self):
        # The sink takes frame 0 alone, so a rise to 2 is never shown.
        system = showing(chain_order(3), [0, 1, 0])
        run = [("rise", 2)]
        self.assertEqual(loop_fault(system, run, []), "unfair")
        self.assertEqual(loop_fault(system, run, [("deliver", 0, 0, 1)]), "open")
        run = [("rise", 2), ("deliver", 0, 0, 1)]
        self.assertIsNone(loop_fault(system, run, [("deliver", 0, 0, 1)]))
        self.assertIsNone(loop_fault(system, run, (["deliver", 0, 0, 1], ["deliver", 0, 0, 1])))
        self.assertEqual(loop_fault(system, run, ()), "unfair")
        self.assertEqual(loop_fault(system, run, [("deliver", 0, 0, 0)]), "deed")

    def test_empty_loops(self):
        net = Net(2, 0, 1, ())
        system = System(net, [NodeTable([[]], [[]], [[]]), NodeTable([[]], [[]], None, [0])], chain_order(2))
        self.assertEqual(loop_fault(system, (), ()), "told")
        self.assertIsNone(loop_fault(system, [RISE], []))

    def test_what_is_no_longer_sent_need_not_be_delivered(self):
        # Behind the rise to 2 the source sends frame 1 alone; frame 0 was sent before and would still lead the sink.
        system = showing(chain_order(3), [0, 1, 1])
        run = [("rise", 1), ("rise", 2), ("deliver", 0, 0, 1)]
        self.assertIsNone(loop_fault(system, run, [("deliver", 0, 0, 1)]))
        self.assertIsNone(loop_fault(system, run, [("deliver", 0, 0, 0), ("deliver", 0, 0, 1)]))
        self.assertEqual(loop_fault(system, run, [("deliver", 0, 0, 0)]), "open")

    def test_the_sink_need_not_be_wrong_all_along(self):
        system = showing(chain_order(3), [0, 2, 1])
        run = [("rise", 1), ("rise", 2), ("deliver", 0, 0, 1)]
        self.assertIsNone(loop_fault(system, run, [("deliver", 0, 0, 0), ("deliver", 0, 0, 1)]))

    def test_words_in_their_order(self):
        system = relay_system()
        for thing in NO_SEQUENCES:
            self.assertEqual(loop_fault(system, thing, thing), "run")
            self.assertEqual(loop_fault(system, [RISE], thing), "deed")
        self.assertEqual(loop_fault(system, [RISE, RISE], [None]), "run")
        self.assertEqual(loop_fault(system, [RISE], [THERE[0], None]), "deed")
        self.assertEqual(loop_fault(system, [RISE], [THERE[0]]), "open")
        done = (RISE,) + THERE + BACK
        self.assertEqual(loop_fault(system, done, [THERE[0]]), "unfair")
        self.assertEqual(loop_fault(system, done, [THERE[1], BACK[0], BACK[1]]), "told")
        self.assertEqual(loop_fault(system, (RISE,), ()), "unfair")


class Rounds(unittest.TestCase):
    def test_by_hand(self):
        system = relay_system()
        standing = system.after(system.first(), RISE)
        deeds, standing = round_from(system, standing)
        self.assertEqual(deeds, (THERE[0],))
        deeds, standing = round_from(system, standing)
        self.assertEqual(deeds, THERE)
        # What is first sent amid a round comes in the next one.
        deeds, standing = round_from(system, standing)
        self.assertEqual(deeds, (THERE[0], BACK[0], THERE[1]))
        deeds, standing = round_from(system, standing)
        self.assertEqual(deeds, (THERE[0], BACK[1], BACK[0], THERE[1]))
        self.assertTrue(system.is_settled(standing))
        self.assertEqual(round_from(system, standing), (deeds, standing))

    def test_held_triples(self):
        system = relay_system()
        standing = end_of(system, (RISE,) + THERE)
        for held in ([(0, 0, 0)], ([0, 0, 0],), [(0, 0, 0), (0, 0, 0), (9, 9, 9)]):
            self.assertEqual(round_from(system, standing, held)[0], (BACK[0], THERE[1]))
        self.assertEqual(round_from(system, standing, held=[(1, 0, 0), (1, 1, 0)])[0], (THERE[0],))
        self.assertEqual(round_from(system, standing, [(0, 0, 0), (1, 0, 0), (1, 1, 0)]), ((), standing))

    def test_other_items_that_are_held_have_no_effect(self):
        system = relay_system()
        standing = end_of(system, (RISE,) + THERE)
        others = [None, "000", (0, 0), (0, 0, 0, 0), {0: 0}, (False, 0, 0), (0, False, 0), (0, 0, False), ([0], 0, 0), (True, 0, 0),
                  ("deliver", 0, 0, 0), {}, 5, (0, 0, None), (0, {}, 0)]
        self.assertEqual(round_from(system, standing, others), round_from(system, standing))
        self.assertEqual(round_from(system, standing, tuple(others) + ((0, 0, 0),)), round_from(system, standing, [(0, 0, 0)]))

    def test_against_the_definition(self):
        dice = random.Random(3)
        for at, system in enumerate(systems()):
            standing = end_of(system, random_run(system, 8, at))
            triples = [(link, way, frame) for link, ways in enumerate(standing[1]) for way in (0, 1) for frame in ways[way]]
            held = dice.sample(triples, len(triples) // 2)
            for left in ([triple for triple in triples if triple not in held], triples):
                behind = standing
                for triple in sorted(left):
                    behind = system.after(behind, ("deliver",) + triple)
                told = round_from(system, standing, held if left != triples else ())
                self.assertEqual(told, (tuple(("deliver",) + triple for triple in sorted(left)), behind))
                self.assertIs(type(told), tuple)

    def test_again_and_again_until_a_standing_comes_round(self):
        for at, system in enumerate(systems()):
            standing, seen = end_of(system, random_run(system, 5, at)), []
            while standing not in seen:
                seen.append(standing)
                standing = round_from(system, standing)[1]
            loop = seen[seen.index(standing):]
            deeds = []
            for one in loop:
                self.assertEqual([tuple(triple) for triple in system.sending(one)], sorted(system.sending(one)))
                deeds += round_from(system, one)[0]
            delivered = {deed[1:] for deed in deeds}
            self.assertTrue(all(set(system.sending(one)) <= delivered for one in loop))

    def test_what_is_held_stays_as_it_was(self):
        held = [[0, 0, 0], None]
        system = relay_system()
        round_from(system, system.after(system.first(), RISE), held)
        self.assertEqual(held, [[0, 0, 0], None])


class Views(unittest.TestCase):
    def setUp(self):
        self.net = relay_system().net
        self.run = (RISE,) + THERE + BACK

    def test_by_hand(self):
        self.assertEqual(view_of(self.net, self.run, [0]), (RISE, BACK[1]))
        self.assertEqual(view_of(self.net, self.run, (1,)), (THERE[1],))
        self.assertEqual(view_of(self.net, self.run, [2]), (THERE[0], BACK[0]))
        self.assertEqual(view_of(self.net, self.run, [2, 1]), THERE + BACK[:1])
        self.assertEqual(view_of(self.net, [list(deed) for deed in self.run], (0, 1, 2)), self.run)
        self.assertEqual(view_of(self.net, self.run, ()), ())
        self.assertEqual(view_of(self.net, (), [0, 1, 2]), ())
        self.assertEqual(view_of(self.net, self.run, [True, False, None, 9, -1]), ())

    def test_deeds_need_not_be_such_as_can_be_done(self):
        run = (("deliver", 1, 1, 5), ("rise", 7), ("deliver", 0, 1, 3), ("rise", 7))
        self.assertEqual(view_of(self.net, run, [1]), run[:1])
        self.assertEqual(view_of(self.net, run, [0]), run[1:])
        none = [("deliver", 5, 0, 0), ("deliver", 2, 0, 0), ("deliver", 0, 2, 0), None, (), ("fall", 1), ("send", 0, 0, 0),
                ("deliver", 0, 0), ("deliver", 0, 0, 0, 0), ("rise",), ("rise", 1, 1)]
        self.assertEqual(view_of(self.net, none, [0, 1, 2]), ())

    def test_the_seat_of_a_node_hangs_on_its_view_alone(self):
        for at, system in enumerate(systems()):
            run = random_run(system, 20, at)
            ends = end_of(system, run)[0]
            for node, table in enumerate(system.tables):
                seat = 0
                for deed in view_of(system.net, run, [node]):
                    if deed[0] == "rise":
                        seat = table.next_on_rise(seat, deed[1])
                    else:
                        seat = table.next_seat(seat, deed[1], deed[3])
                self.assertEqual(seat, ends[node])
            both = [(k, deed) for k, deed in enumerate(run)
                    if (deed[0] == "rise" and system.net.source in (0, 1))
                    or (deed[0] == "deliver" and system.net.receiver(deed[1], deed[2]) in (0, 1))]
            self.assertEqual(view_of(system.net, run, [1, 0]), tuple(deed for _, deed in both))


class Texts(unittest.TestCase):
    def test_by_hand(self):
        self.assertEqual(run_text((RISE, ["deliver", 11, 1, 5])), "((rise 1) (deliver 11 1 5))")
        self.assertEqual(run_text([RISE]), "((rise 1))")
        self.assertEqual(run_text(()), "()")
        self.assertEqual(read_run("()"), ())

    def test_texts_lead_back(self):
        for at, system in enumerate(systems()):
            run = random_run(system, 9, at)
            self.assertEqual(run_text(run), data_text(run))
            self.assertEqual(read_run(run_text([list(deed) for deed in run])), run)

    def test_bad_texts(self):
        for text, place in (("", 0), ("((rise 1)", 9), ("((rise 01))", 8), ("()x", 2), ("((rise  1))", 7)):
            self.assertEqual(raised(self, BadText, read_run, text), {"place": place})

    def test_bad_shapes(self):
        cases = [("5", ()), ("rise", ()), ("(rise 1)", (0,)), ("((rise 1) ())", (1,)), ("((rise))", (0,)), ("((rise 24))", (0,)),
                 ("((rise 1 1))", (0,)), ("((deliver 12 0 0))", (0,)), ("((deliver 0 2 0))", (0,)), ("((deliver 0 0 6))", (0,)),
                 ("((deliver 0 0))", (0,)), ("((stop 1))", (0,)), ("((rise 1) (rise 2) -)", (2,))]
        for text, path in cases:
            self.assertEqual(raised(self, BadShape, read_run, text), {"path": path}, text)
        self.assertEqual(read_run("((rise 23) (deliver 11 1 5))"), (("rise", 23), ("deliver", 11, 1, 5)))
        self.assertEqual(read_run("((rise 0) (deliver 0 0 0))"), (("rise", 0), ("deliver", 0, 0, 0)))

    def test_text_comes_ahead_of_shape(self):
        self.assertEqual(raised(self, BadText, read_run, "((stop 1)"), {"place": 9})

    def test_an_order_of_one_state(self):
        net = Net(2, 0, 1, ())
        system = System(net, [NodeTable([[]], [[]], [[]]), NodeTable([[]], [[]], None, [0])], flat_order(1))
        self.assertIsNone(run_fault(system, ()))
        self.assertEqual(loop_fault(system, (), ()), "told")
        self.assertEqual(run_fault(system, [("rise", 0)]), ("deed", 0))
