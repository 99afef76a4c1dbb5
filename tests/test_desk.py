"""[16.1] to [16.6]."""

import random
import unittest

from spentframes.cuts import least_cut
from spentframes.desk import Desk
from spentframes.errors import (
    BadNet, BadOrder, BadPart, BadSide, BadSystem, BadTable, FrameError, NoDeed, NoSystem, NotEnough, NotSettled, OrderedLink,
    TooMany)
from spentframes.foe import break_by
from spentframes.keeper import Keeper, keeper_text, keeper_twin
from spentframes.makers import chain_order, flat_order
from spentframes.needs import need_of
from spentframes.nets import Net
from spentframes.orders import Order
from spentframes.outcomes import Above, Stuck
from spentframes.systems import System
from spentframes.tables import NodeTable
from spentframes.verdicts import judge
from tests.helpers import form_orders, raised, random_net, random_table

CHAIN = ("order", 3, ((0, 1), (1, 2)))
LINE = ("net", 2, 0, 1, ((0, 1, 3, "loose"),))
READY = (CHAIN, LINE, ("start",))
TABLES = ("tables", ((((), ((0, 0),)), ((), ()), (((1, 1), (2, 1)), ()), None), (((), ()), (((0, 0, 1),), ()), None, (0, 1))))
KEEPER_DEEDS = (("rise", 1), ("deliver", 0, 0, 0), ("stop", 0), ("wake", 0), ("part", ("rise", 1), 0), ("calm",),
                ("change", 2, ((0, 1),)), ("carry",))
NO_FORMS = (None, 5, "start", {}, (), ("start", 1), ["start", None], ("begin",), (None,), (5,), (["start"],), ("order", 3), ("order",),
            ("order", 3, (), ()), ("net", 2, 0, 1), ("net", 2, 0, 1, (), ()), ("rise",), ("rise", 1, 2), ("deliver", 0, 0),
            ("deliver", 0, 0, 0, 0), ("stop",), ("wake",), ("wake", 0, 0), ("part", ("rise", 1)), ("part", None, 1), ("part", (), 1),
            ("part", ("calm",), 1), ("part", ("part", ("rise", 1), 1), 1), ("part", ("rise",), 1), ("part", ("rise", 1, 1), 1),
            ("part", "rise", 1), ("part", ("start",), 1), ("part", ("deliver", 0, 0), 1), ("calm", 1), ("change", 3), ("carry", 1),
            ("tables",), ("tables", None), ("tables", "ab"), ("tables", [None]), ("tables", [(1, 2, 3)]), ("tables", [(1, 2, 3, 4, 5)]),
            ("tables", [(), (1, 2, 3, 4)]), ("tables", (), ()), ("back", 1), ("tables", {}), ((("rise", 1)), 1), ("Start",))


def made(*deeds):
    desk = Desk()
    for deed in deeds:
        desk.do(deed)
    return desk


def state_of(desk):
    """Return all that is on a desk, as things that can be compared."""
    system = desk.system and (desk.system.net, desk.system.tables, desk.system.order, desk.system.spent, desk.system.goals)
    return [desk.order, desk.net, desk.keeper and keeper_text(desk.keeper), system, desk.log]


class Case(unittest.TestCase):
    def check_same(self, one, other):
        self.assertTrue(all(a == b for a, b in zip(one, other)), (one, other))

    def refused(self, desk, error, deed):
        """Check that a deed is refused and changes nothing; return the attributes of the error."""
        before = state_of(desk)
        told = raised(self, error, desk.do, deed)
        self.check_same(state_of(desk), before)
        return told


class Deeds(Case):
    def test_a_new_desk(self):
        desk = Desk()
        self.assertEqual((desk.order, desk.net, desk.keeper, desk.system, desk.log, len(desk), list(desk)), (None,) * 4 + ((), 0, []))

    def test_ahead_of_the_start(self):
        desk = Desk()
        self.assertEqual(desk.do(["order", 4, [(0, 1), [0, 2], (0, 3)]]), 3)
        self.assertTrue(desk.order == flat_order(4))
        self.assertEqual(desk.do(("order", 3, [[0, 1], [1, 2]])), 2)
        self.assertTrue(desk.order == chain_order(3))
        self.assertEqual(desk.do(LINE), 3)
        self.assertEqual(desk.do(("net", 2, 0, 1, [(0, 1, 3, "ordered")])), None)
        self.assertEqual(desk.do(("net", 3, 0, 1, [])), 0)
        self.assertTrue(desk.net == Net(3, 0, 1, []))
        self.assertIsNone(desk.keeper)
        self.assertEqual(desk.log[0], ("order", 4, ((0, 1), (0, 2), (0, 3))))
        self.assertEqual((len(desk), tuple(desk)), (5, desk.log))

    def test_the_start(self):
        desk = made(CHAIN, LINE)
        self.assertEqual(desk.do(("start",)), 3)
        self.assertEqual(keeper_text(desk.keeper), keeper_text(Keeper(chain_order(3), Net(2, 0, 1, [(0, 1, 3, "loose")]))))
        for deed in (CHAIN, LINE, ("start",), ("order", None, None), ("net", 0, 0, 0, None)):
            self.assertEqual(self.refused(desk, NoDeed, deed), {"deed": deed})
        self.assertIsNone(made(CHAIN, ("net", 2, 0, 1, [(0, 1, 3, "ordered")])).do(("start",)))
        for desk in (made(), made(CHAIN), made(LINE)):
            self.assertEqual(self.refused(desk, NoDeed, ["start"]), {"deed": ["start"]})
        desk = made(("order", 5, [(0, 1), (1, 2), (2, 3), (3, 4)]), LINE)
        self.assertEqual(self.refused(desk, NotEnough, ("start",)), {"need": 4, "left": 3})

    def test_by_the_keeper(self):
        desk = made(*READY)
        self.assertEqual(desk.do(["rise", 2]), 0)
        sent = desk.keeper.sent_on(0, 0)[0]
        self.assertEqual(desk.do(("part", ["deliver", 0, 0, sent], 1)), 1)
        self.assertEqual((desk.keeper.asleep_now, desk.keeper.sent_on(0, 1)), ((1,), ()))
        self.assertEqual(desk.do(("stop", 0)), 1)
        self.assertEqual((desk.do(("wake", 0)), desk.do(("wake", 1))), (1, 1))
        self.assertEqual(desk.keeper.sent_on(0, 1), (sent,))
        twin = keeper_twin(desk.keeper)
        self.assertEqual(desk.do(("calm",)), len(twin.calm_down()))
        self.assertEqual((desk.keeper.shown_now, desk.keeper.left_now), (2, 1))
        text = keeper_text(desk.keeper)
        self.assertEqual(desk.do(("carry",)), text)
        self.assertEqual(keeper_text(desk.keeper), text)
        self.assertEqual(desk.do(("change", 2, [(0, 1)])), 1)
        self.assertTrue(desk.order == desk.keeper.order == chain_order(2))
        self.assertEqual(desk.log[-6:], (("stop", 0), ("wake", 0), ("wake", 1), ("calm",), ("carry",), ("change", 2, ((0, 1),))))
        self.assertEqual(desk.log[4], ("part", ("deliver", 0, 0, sent), 1))

    def test_only_behind_the_start(self):
        for desk in (made(), made(CHAIN, LINE)):
            for deed in KEEPER_DEEDS + (("change", None, None), ("part", ("rise", 99), -1)):
                self.assertEqual(self.refused(desk, NoDeed, deed), {"deed": deed})

    def test_what_the_keeper_refuses(self):
        desk = made(*READY)
        for deed in (("rise", 0), ["rise", None], ("deliver", 0, 0, 0), ("stop", 2), ("wake", 0), ("part", ("rise", 0), 0),
                     ["part", ["wake", 1], None], ("part", ("stop", 0), 0), ("part", ("deliver", 0, 0, 0), 0)):
            self.assertIs(self.refused(desk, NoDeed, deed)["deed"], deed)
        self.assertEqual(self.refused(desk, BadPart, ("part", ("rise", 1), 3)), {"many": 3})
        self.assertEqual(self.refused(desk, BadOrder, ("change", 2, [])), {"what": "least", "at": 1})
        self.assertEqual(self.refused(desk, NotEnough, ("change", 5, ((0, 1), (1, 2), (2, 3), (3, 4)))), {"need": 4, "left": 3})
        desk.do(("rise", 1))
        self.assertEqual(self.refused(desk, BadOrder, ("change", 0, None)), {"what": "states", "at": 0})
        self.assertEqual(self.refused(desk, NotSettled, ("change", 1, ())), {})

    def test_what_the_makers_refuse(self):
        desk = made(CHAIN, LINE)
        self.assertEqual(self.refused(desk, BadOrder, ("order", 25, None)), {"what": "states", "at": 0})
        self.assertEqual(self.refused(desk, BadNet, ("net", 2, 0, 1, [(0, 1, 1, "tight")])), {"what": "kind", "at": 0})
        self.assertEqual(self.refused(desk, BadTable, ("tables", [(None,) * 4])), {"what": "sends", "seat": 0})
        self.assertEqual(self.refused(desk, BadTable, ("tables", [TABLES[1][0], (((),), ((),), None, (24,)), None][:2])),
                         {"what": "shows", "seat": 0})
        # All tables are made ahead of the system.
        self.assertEqual(self.refused(desk, BadTable, ("tables", (TABLES[1][1], TABLES[1][1], (1, 2, 3, 4)))), {"what": "sends", "seat": 0})
        self.assertEqual(self.refused(desk, BadSystem, ("tables", ())), {"node": 0, "what": "many"})
        self.assertEqual(self.refused(desk, BadSystem, ("tables", TABLES[1][::-1])), {"node": 0, "what": "rises"})
        desk.do(("net", 2, 0, 1, [(0, 1, 1, "ordered")]))
        self.assertEqual(self.refused(desk, OrderedLink, TABLES), {"link": 0})

    def test_no_forms(self):
        for desk in (made(), made(CHAIN, LINE), made(*READY)):
            for deed in NO_FORMS:
                self.assertIs(self.refused(desk, NoDeed, deed)["deed"], deed)

    def test_what_is_passed_is_neither_changed_nor_kept(self):
        deed = ["order", 2, [[0, 1]]]
        desk = made(deed)
        self.assertEqual(deed, ["order", 2, [[0, 1]]])
        deed[2][0][1] = 9
        self.assertEqual((desk.log, desk.order.edges), ((("order", 2, ((0, 1),)),), ((0, 1),)))


class Tables(Case):
    def test_ahead_of_the_start(self):
        for desk in (made(), made(CHAIN), made(LINE)):
            self.assertEqual(self.refused(desk, NoDeed, TABLES), {"deed": TABLES})
        desk = made(CHAIN, LINE)
        self.assertEqual(desk.do(["tables", [list(item) for item in TABLES[1]]]), 2)
        self.assertEqual((desk.system.spent, desk.system.goals, desk.log[-1]), ((), None, TABLES))
        self.assertTrue(desk.system.net == desk.net and desk.system.order == desk.order)
        self.assertTrue(desk.system.tables == tuple(NodeTable(*item) for item in TABLES[1]))

    def test_spent_frames_and_a_system_that_stays(self):
        desk = made(*READY)
        desk.do(("rise", 2))
        desk.do(("calm",))
        desk.do(TABLES)
        keeper = desk.keeper
        spent = tuple((0, way, frame) for way in (0, 1) for frame in keeper.sent_on(0, way))
        self.assertEqual(desk.system.spent, spent)
        self.assertGreater(len(spent), 0)
        system = desk.system
        for deed in (("change", 2, ((0, 1),)), ("rise", 1), ("calm",), ("carry",)):
            desk.do(deed)
            self.assertIs(desk.system, system)
        self.assertTrue(system.order == chain_order(3))
        self.assertEqual(self.refused(desk, BadSystem, TABLES), {"node": 0, "what": "rise"})
        desk.do(("tables", (TABLES[1][0][:2] + ((((1, 1),), ()), None), TABLES[1][1])))
        self.assertTrue(desk.system.order == chain_order(2))
        self.assertGreater(len(desk.system.spent), len(spent))

    def test_a_system_stays_when_another_order_is_put(self):
        desk = made(CHAIN, LINE, TABLES)
        system = desk.system
        desk.do(("order", 2, ((0, 1),)))
        desk.do(("net", 2, 0, 1, ()))
        self.assertIs(desk.system, system)


class Questions(Case):
    def test_verdicts(self):
        desk = made(CHAIN, LINE, TABLES)
        before = state_of(desk)
        system = desk.system
        self.assertEqual((desk.verdict_now(), desk.broken_now([0])), (judge(system), break_by(system, [0])))
        self.assertIsInstance(desk.verdict_now(), Stuck)
        self.assertEqual(raised(self, BadSide, desk.broken_now, [1]), {"what": "source"})
        self.check_same(state_of(desk), before)
        right = made(("order", 2, ((0, 1),)), LINE, ("tables", ((((), ((0, 0),)), ((), ()), (((1, 1),), ()), None), TABLES[1][1])))
        self.assertIsNone(right.verdict_now())
        wrong = made(CHAIN, LINE, ("tables", (TABLES[1][0], (((), ()), (((0, 0, 1),), ()), None, (0, 2)))))
        self.assertEqual(wrong.verdict_now(), Above([("rise", 1), ("deliver", 0, 0, 0)]))

    def test_too_many(self):
        n = 15100
        sink = ([()] * n, [[(0, 0, (k + 1) % n)] for k in range(n)], None, [0] * n)
        source = ([(), [(0, 0)], [(0, 1)]], [()] * 3, [[(1, 1), (2, 2)], [(2, 2)], []], None)
        desk = made(CHAIN, LINE, ("tables", [source, sink]))
        self.assertEqual(raised(self, TooMany, desk.verdict_now), {"most": 30000})

    def test_no_system(self):
        for desk in (made(), made(*READY)):
            self.assertEqual(raised(self, NoSystem, desk.verdict_now), {})
            self.assertEqual(raised(self, NoSystem, desk.broken_now, None), {})


class Back(Case):
    def test_deeds_taken_back(self):
        deeds = READY + (("rise", 1), ("stop", 1), ("wake", 1), ("part", ("deliver", 0, 0, 0), 1), ("wake", 1), ("calm",), TABLES,
                         ("carry",), ("change", 2, ((0, 1),)), ("rise", 1), ("calm",))
        sent = made(*READY, ("rise", 1)).keeper.sent_on(0, 0)[0]
        deeds = tuple(("part", ("deliver", 0, 0, sent), 1) if deed[0] == "part" else deed for deed in deeds)
        desk, states = Desk(), []
        for deed in deeds:
            states.append(state_of(desk))
            desk.do(deed)
        last = state_of(desk)
        for deed, before in list(zip(deeds, states))[::-1]:
            self.assertEqual(desk.do(["back"]), deed)
            self.check_same(state_of(desk), before)
        self.assertEqual(self.refused(desk, NoDeed, ("back",)), {"deed": ("back",)})
        for deed in deeds:
            desk.do(deed)
        self.check_same(state_of(desk), last)

    def test_the_start_taken_back(self):
        desk = made(*READY)
        desk.do(("back",))
        self.assertIsNone(desk.keeper)
        self.assertEqual(desk.do(("order", 2, [(0, 1)])), 1)
        self.assertEqual(desk.do(("start",)), 3)
        self.assertTrue(desk.keeper.order == desk.order == chain_order(2))


def any_deed(desk, dice):
    """Return any deed, often one that can be done."""
    order, net = dice.choice(form_orders()), random_net(dice.randrange(500), loose=dice.random() < 0.6)
    deeds = [("start",), ("calm",), ("carry",), ("back",), ("change", order.n, list(order.edges))]
    if desk.keeper is None:
        deeds += [("order", order.n, order.edges), ("net", net.nodes, net.source, net.sink, net.links)] * 2 + [("start",)] * 3
    else:
        there = dice.choice(desk.keeper.deeds_now())
        deeds += [there] * 8 + [("part", there, dice.randint(0, 2))] * 2 + [("wake", node) for node in desk.keeper.asleep_now] * 3
    if desk.order and desk.net and dice.random() < 0.5:
        deeds.append(("tables", [random_table(desk.net, node, desk.order, dice, 2) for node in range(desk.net.nodes)]))
    return dice.choice(deeds)


class Stray(Exception):
    """An error of the work that is tried."""


class Logs(Case):
    def test_done_again_by_a_new_desk(self):
        words = set()
        for seed in range(60):
            dice, desk, answers, states = random.Random(seed), Desk(), [], []
            for _ in range(50):
                deed, before = any_deed(desk, dice), state_of(desk)
                try:
                    answer = desk.do(deed)
                except FrameError:
                    self.check_same(state_of(desk), before)
                    continue
                words.add(deed[0])
                if deed[0] == "back":
                    self.assertEqual(answer, before[4][-1])
                    answers.pop()
                    states.pop()
                    self.check_same(state_of(desk), states[-1] if states else state_of(Desk()))
                else:
                    answers.append(answer)
                    states.append(state_of(desk))
            again = Desk()
            self.assertEqual((len(desk), tuple(desk)), (len(desk.log), desk.log))
            for deed, answer, state in zip(desk, answers, states):
                self.assertEqual(again.do(deed), answer)
                self.check_same(state_of(again), state)
        self.assertEqual(words, {"order", "net", "start", "rise", "deliver", "stop", "wake", "part", "calm", "change", "carry",
                                 "tables", "back"})

    def test_answers_of_orders_and_nets(self):
        for seed in range(40):
            order, net = form_orders()[seed], random_net(seed, loose=False)
            desk = Desk()
            self.assertEqual(desk.do(("order", order.n, order.edges)), need_of(order))
            self.assertEqual(desk.do(("net", net.nodes, net.source, net.sink, net.links)), least_cut(net)[0])


class Trials(Case):
    def any_work(self, dice, fails):
        def work(desk):
            for _ in range(6):
                try:
                    desk.do(any_deed(desk, dice))
                except FrameError:
                    pass
            if fails:
                raise Stray()
            return len(desk)
        return work

    def desks(self):
        for seed in range(40):
            dice, desk = random.Random(seed), Desk()
            for deed in READY if seed % 4 else ():
                desk.do(deed)
            for _ in range(seed % 20):
                try:
                    desk.do(any_deed(desk, dice))
                except FrameError:
                    pass
            yield dice, desk

    def test_tried(self):
        for dice, desk in self.desks():
            before = state_of(desk)
            self.assertIs(type(desk.tried(self.any_work(dice, False))), int)
            self.check_same(state_of(desk), before)
            with self.assertRaises(Stray):
                desk.tried(self.any_work(dice, True))
            self.check_same(state_of(desk), before)
            self.assertIs(desk.tried(lambda held: held is desk), True)

    def test_with(self):
        for dice, desk in self.desks():
            before = state_of(desk)
            with desk.trial() as held:
                self.assertIs(held, desk)
                self.check_same(state_of(desk), before)
                self.any_work(dice, False)(held)
            self.check_same(state_of(desk), before)
            with self.assertRaises(Stray), desk.trial():
                self.any_work(dice, True)(desk)
            self.check_same(state_of(desk), before)

    def test_trials_within_trials(self):
        for dice, desk in self.desks():
            before = state_of(desk)
            with desk.trial():
                self.any_work(dice, False)(desk)
                inner = state_of(desk)
                with desk.trial() as held:
                    self.any_work(dice, False)(held)
                    desk.tried(self.any_work(dice, False))
                self.check_same(state_of(desk), inner)
                self.any_work(dice, False)(desk)
            self.check_same(state_of(desk), before)

    def test_deeds_of_before_taken_back_in_a_trial(self):
        desk = made(*READY, ("rise", 2), ("calm",), ("carry",))
        before = state_of(desk)
        with desk.trial():
            for _ in range(6):
                desk.do(("back",))
            self.check_same(state_of(desk), state_of(Desk()))
            desk.do(("order", 1, ()))
        self.check_same(state_of(desk), before)
        for _ in range(2):
            desk.do(("back",))
        self.assertEqual((desk.keeper.risen_now, desk.keeper.shown_now), (2, 0))

    def test_errors_go_on(self):
        desk = made(*READY)
        self.assertEqual(raised(self, NoDeed, desk.tried, lambda held: held.do(("rise", 9))), {"deed": ("rise", 9)})
        self.assertEqual(len(desk), 3)

    def test_the_system_and_the_order(self):
        desk = made(CHAIN, LINE, TABLES)
        order, net, system = desk.order, desk.net, desk.system
        with desk.trial():
            desk.do(("order", 1, ()))
            desk.do(("net", 2, 1, 0, ()))
            desk.do(("start",))
            desk.do(("tables", ((((),), ((),), None, (0,)), (((),), ((),), ((),), None))))
            self.assertTrue(isinstance(desk.system, System) and desk.system is not system)
        self.assertTrue(desk.order is order and desk.net is net and desk.system is system and desk.keeper is None)
        self.assertTrue(desk.order == Order(3, [(0, 1), (1, 2)]))


if __name__ == "__main__":
    unittest.main()
