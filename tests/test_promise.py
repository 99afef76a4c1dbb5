"""[0.3]: for every order and every net of loose links exactly one of two things is told."""

import random
import unittest

from spentframes.codes import deep_code
from spentframes.compiled import net_system
from spentframes.cuts import frames_across, least_cut
from spentframes.errors import NotEnough, TooMany
from spentframes.flows import greatest_paths
from spentframes.foe import break_by
from spentframes.keeper import Keeper
from spentframes.needs import need_of
from spentframes.outcomes import Told, breaks
from spentframes.runs import end_of, round_from
from spentframes.systems import System
from spentframes.tables import NodeTable
from tests.helpers import form_orders, raised, random_net, random_run, random_table


def orders_and_nets():
    """Return orders with nets of loose links whose least cut is about their need."""
    orders, made = form_orders(), []
    for seed in range(160):
        net = random_net(seed)
        near = sorted(orders, key=lambda order: abs(need_of(order) - least_cut(net)[0] - seed % 2))
        made.append((random.Random(seed).choice(near[:6]), net))
    return made


class Promise(unittest.TestCase):
    def test_enough_frames(self):
        kept = 0
        for seed, (order, net) in enumerate(orders_and_nets()):
            if need_of(order) > least_cut(net)[0]:
                continue
            self.check_keeper(Keeper(order, net), random.Random(seed))
            if need_of(order) <= 6:
                code = deep_code(order, need_of(order))
                self.check_tables(net_system(code, net, greatest_paths(net, 6)), seed)
            kept += 1
        self.assertGreater(kept, 40)

    def check_keeper(self, keeper, dice):
        order, shown = keeper.order, 0
        for _ in range(60):
            deeds = [deed for deed in keeper.deeds_now() if deed[0] in ("rise", "deliver")]
            before, shown = shown, keeper.do_deed(dice.choice(deeds)) if deeds else shown
            self.assertTrue(order.at_most(before, shown) and order.at_most(shown, keeper.risen_now))
        keeper.calm_down()
        self.assertEqual(keeper.shown_now, keeper.risen_now)

    def check_tables(self, system, seed):
        standing = end_of(system, random_run(system, 40, seed))
        while round_from(system, standing)[1] != standing:
            standing = round_from(system, standing)[1]
        self.assertTrue(system.is_settled(standing))
        for side in ((system.net.source,), least_cut(system.net)[1]):
            try:
                self.assertIsInstance(break_by(system, side, 400), Told)
            except TooMany:
                pass

    def test_too_few_frames(self):
        broken = 0
        for seed, (order, net) in enumerate(orders_and_nets()):
            size, side = least_cut(net)
            if need_of(order) <= size:
                continue
            self.assertEqual(raised(self, NotEnough, Keeper, order, net), {"need": need_of(order), "left": size})
            for k in range(4):
                dice = random.Random(9 * seed + k)
                tables = [NodeTable(*random_table(net, node, order, dice, dice.randint(1, 5))) for node in range(net.nodes)]
                system = System(net, tables, order)
                self.assertEqual(len(frames_across(net, side)), size)
                try:
                    self.assertTrue(breaks(system, break_by(system, side)))
                    broken += 1
                except TooMany:
                    pass
        self.assertGreater(broken, 150)


if __name__ == "__main__":
    unittest.main()
