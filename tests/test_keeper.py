"""[15.1] to [15.11]."""

import random
import unittest

from spentframes.codes import deep_code
from spentframes.compiled import net_system, sender_seats
from spentframes.coursing import shown_state
from spentframes.cuts import count_unsent, is_thick, least_cut
from spentframes.datatext import check_data, data_text
from spentframes.errors import BadPart, BadText, NoDeed, NotEnough, NotSettled, TooMany
from spentframes.flows import paths_fault
from spentframes.foe import break_by
from spentframes.keeper import Keeper, keeper_text, keeper_twin, read_keeper
from spentframes.makers import chain_order, flat_order, words_order
from spentframes.needs import need_of
from spentframes.nets import Net
from spentframes.orders import Order
from spentframes.outcomes import breaks
from spentframes.systems import System
from spentframes.tables import NodeTable
from tests.helpers import form_orders, raised, random_net, random_table

ONE = Net(2, 0, 1, [(0, 1, 1, "loose")])
THICK = Net(2, 1, 0, [(0, 1, 3, "ordered")])
NO_DEEDS = (None, 5, "rise", {}, (), ("rise",), ("rise", 1, 1), ("rise", True), ("rise", None), ("rise", 0), ("rise", 99), ("rise", [1]),
            ("deliver", 0, 0), ("deliver", 0, 0, 0, 0), ("deliver", 9, 0, 0), ("deliver", -1, 0, 0), ("deliver", 0, 2, 0),
            ("deliver", 0, True, 0), ("deliver", 0, 0, 99), ("deliver", 0, 0, -1), ("deliver", 0, 0, None), ("deliver", False, 0, 0),
            ("stop", 9), ("stop", -1), ("stop", True), ("stop", None), ("stop",), ("wake", 9), ("wake", 0), ("wake", True), ("wake", None),
            ("calm",), ("fall", 1), (None, 1), (("rise",), 1), ("part", ("rise", 1), 1), ("deliver", "0", 0, 0), ("stop", "0"))


def mixed_nets():
    """Return nets of loose, thin and thick links."""
    return [
        ONE, THICK, Net(2, 0, 1, [(0, 1, 2, "ordered")]), Net(2, 0, 1, [(0, 1, 6, "loose")]), Net(2, 0, 1, [(1, 0, 6, "ordered")]),
        Net(3, 0, 2, [(0, 1, 3, "ordered"), (1, 2, 4, "loose")]), Net(3, 0, 2, [(0, 1, 4, "loose"), (2, 1, 5, "ordered")]),
        Net(3, 0, 2, [(0, 1, 3, "ordered"), (1, 2, 3, "ordered")]), Net(3, 2, 0, [(0, 1, 2, "ordered"), (1, 2, 2, "ordered"), (0, 2, 2, "loose")]),
        Net(4, 0, 3, [(0, 1, 2, "ordered"), (1, 3, 2, "loose"), (0, 2, 2, "loose"), (2, 3, 3, "ordered"), (1, 2, 2, "ordered")]),
        Net(4, 1, 2, [(1, 0, 6, "ordered"), (0, 3, 2, "ordered"), (3, 2, 4, "ordered"), (0, 2, 3, "loose"), (1, 3, 1, "loose")]),
        Net(5, 0, 4, [(0, 1, 4, "ordered"), (1, 2, 2, "loose"), (1, 3, 2, "ordered"), (2, 4, 2, "ordered"), (3, 4, 2, "loose"), (2, 3, 3, "ordered")]),
    ]


def crossing_net():
    """Return a net with a thin and a thick link between its two relays."""
    return Net(4, 0, 3, [(0, 1, 2, "loose"), (0, 2, 2, "loose"), (1, 2, 2, "ordered"), (1, 3, 2, "loose"), (2, 3, 2, "loose"), (2, 1, 3, "ordered")])


def nets():
    return mixed_nets() + [crossing_net()] + [random_net(seed, loose=seed % 3 == 0) for seed in range(120)]


def keepers():
    """Return keepers of many orders and nets."""
    made = []
    for seed, net in enumerate(nets()):
        size = least_cut(net)[0]
        orders = [order for order in form_orders() if size is None or need_of(order) <= size]
        order = random.Random(seed).choice(orders)
        made.append((seed, Keeper(order, net)))
    return made


def is_loose(keeper, link):
    return keeper.net.links[link][3] == "loose"


def standing_of(keeper):
    """Return all that can be asked of a keeper, as plain data."""
    net = keeper.net
    ways = [(link, way) for link in range(len(net)) for way in (0, 1)]
    return {"sent": {way: keeper.sent_on(*way) for way in ways}, "read": {way: keeper.read_from(*way) for way in ways},
            "disks": [keeper.disk_of(node) for node in range(net.nodes)], "shown": keeper.shown_now, "risen": keeper.risen_now,
            "asleep": keeper.asleep_now, "left": keeper.left_now, "order": (keeper.order.n, keeper.order.edges), "paths": keeper.paths}


def deeds_by_words(keeper):
    """[15.3]."""
    net, deeds = keeper.net, []
    for link in range(len(net)):
        for way in (0, 1):
            if net.receiver(link, way) not in keeper.asleep_now:
                sent = keeper.sent_on(link, way)
                items = sent if is_loose(keeper, link) else range(keeper.read_from(link, way), len(sent))
                deeds += [("deliver", link, way, item) for item in items]
    if net.source not in keeper.asleep_now:
        deeds += [("rise", state) for state in keeper.order.above(keeper.risen_now)]
    deeds += [("stop", node) for node in range(net.nodes) if node not in keeper.asleep_now]
    return tuple(deeds + [("wake", node) for node in keeper.asleep_now])


def reached_by(keeper, deed):
    if deed[0] == "deliver":
        return keeper.net.receiver(deed[1], deed[2])
    return keeper.net.source if deed[0] == "rise" else deed[1]


class Case(unittest.TestCase):
    def checked(self, keeper, deed, many=None):
        """Do a deed, or a part of it, and check all that it changes."""
        before, node = standing_of(keeper), reached_by(keeper, deed)
        steps = keeper.small_steps(list(deed))
        self.assertEqual(standing_of(keeper), before)
        wanted = steps if many is None else steps[:many]
        answer = keeper.do_deed(deed) if many is None else keeper.do_part(list(deed), many)
        after = standing_of(keeper)
        self.assertEqual(answer, keeper.shown_now)
        changed = [at for at, (old, new) in enumerate(zip(before["disks"], after["disks"])) if old != new]
        self.assertEqual(changed, [step[1] for step in wanted if step[0] == "write"])
        self.assertTrue(changed in ([], [node]))
        for way, sent in before["sent"].items():
            more = tuple(step[3] for step in wanted if step[0] == "send" and step[1:3] == way)
            whole = sent + more
            self.assertEqual(after["sent"][way], tuple(sorted(whole)) if is_loose(keeper, way[0]) else whole)
            self.assertTrue(all(keeper.net.sender(*way) == node for _ in more))
            self.assertLessEqual(len(more), 1 if not is_loose(keeper, way[0]) else 6)
            self.assertFalse(more and more[0] in (sent if is_loose(keeper, way[0]) else sent[-1:]))
        read = dict(before["read"])
        if deed[0] == "deliver" and not is_loose(keeper, deed[1]):
            read[tuple(deed[1:3])] = deed[3]
        self.assertEqual(after["read"], read)
        asleep = set(before["asleep"]) | ({node} if deed[0] == "stop" or many is not None else set())
        if deed[0] == "wake" and many is None:
            asleep.discard(node)
        self.assertEqual(after["asleep"], tuple(sorted(asleep)))
        self.check_states(keeper, before, after, deed, changed)
        self.check_steps(keeper, deed, steps)

    def check_steps(self, keeper, deed, steps):
        sends = [step for step in steps if step[0] == "send"]
        self.assertEqual(steps, tuple([step for step in steps if step[0] == "write"] + sorted(sends)))
        if deed[0] == "stop":
            self.assertEqual(steps, ())
        if deed[0] == "wake":
            self.assertEqual(len(sends), len(steps))
        if deed[0] == "rise":
            self.assertEqual(steps[0], ("write", keeper.net.source))

    def check_states(self, keeper, before, after, deed, changed):
        order = keeper.order
        self.assertTrue(order.at_most(after["shown"], after["risen"]))
        self.assertTrue(order.at_most(before["shown"], after["shown"]))
        rises = deed[0] == "rise" and changed
        self.assertEqual(after["risen"], deed[1] if rises else before["risen"])
        if keeper.net.sink not in changed:
            self.assertEqual(after["shown"], before["shown"])

    def wake_all(self, keeper):
        for node in keeper.asleep_now:
            self.checked(keeper, ("wake", node))


def next_deed(keeper, dice):
    """Return a deed, mostly a delivery, and seldom one that lets a node sleep."""
    deeds = keeper.deeds_now()
    there = [deed for deed in deeds if deed[0] == "deliver"]
    waking = [deed for deed in deeds if deed[0] == "wake"]
    if waking and dice.random() < 0.4:
        return dice.choice(waking)
    if there and dice.random() < 0.8:
        # Late frames come as often as new ones.
        return dice.choice([dice.choice(there), there[-1], there[0]])
    return dice.choice([deed for deed in deeds if deed[0] != "stop"] * 3 + [deed for deed in deeds if deed[0] == "stop"])


class Making(Case):
    def test_parts(self):
        for _, keeper in keepers():
            size, need = least_cut(keeper.net)[0], need_of(keeper.order)
            self.assertTrue(keeper.code == deep_code(keeper.order, need))
            self.assertEqual(len(keeper.paths), need)
            self.assertIsNone(paths_fault(keeper.net, keeper.paths))
            self.assertEqual(keeper.left_now, size)
            self.assertEqual((keeper.shown_now, keeper.risen_now, keeper.asleep_now), (0, 0, ()))
            if size is None and need:
                self.assertEqual(len(set(keeper.paths)), 1)
                self.assertTrue(all(is_thick(keeper.net, hop[0]) for hop in keeper.paths[0]))
            self.assertTrue(keeper.settled_now() and keeper.quiet_now())
            self.assertEqual(keeper.calm_down(), ())

    def test_a_need_that_meets_the_cut_and_one_that_passes_it(self):
        for net in nets():
            size = least_cut(net)[0]
            if size is None:
                self.assertEqual(len(Keeper(chain_order(24), net).paths), 23)
            elif size < 23:
                self.assertEqual(len(Keeper(chain_order(size + 1), net).paths), size)
                told = raised(self, NotEnough, Keeper, chain_order(size + 2), net)
                self.assertEqual(told, {"need": size + 1, "left": size})

    def test_the_example(self):
        keeper = Keeper(Order(2, [(0, 1)]), ONE)
        self.assertEqual(keeper.small_steps(("rise", 1)), (("write", 0), ("send", 0, 0, 0)))
        self.assertEqual(keeper.deeds_now(), (("rise", 1), ("stop", 0), ("stop", 1)))
        self.assertEqual(keeper.do_deed(["rise", 1]), 0)
        self.assertEqual(keeper.do_deed(("deliver", 0, 0, 0)), 1)
        self.assertEqual(keeper.sent_on(0, 1), (0,))
        self.assertEqual((keeper.shown_now, keeper.risen_now, keeper.left_now, keeper.settled_now()), (1, 1, 0, False))
        self.assertEqual(keeper.calm_down(), (("deliver", 0, 1, 0),))
        self.assertTrue(keeper.settled_now())

    def test_the_keeper_is_not_told_of_later_changes(self):
        links = [[0, 1, 1, "loose"]]
        pairs = [[0, 1]]
        order, net = Order(2, pairs), Net(2, 0, 1, links)
        keeper = Keeper(order, net)
        pairs[0][1] = links[0][2] = 0
        self.assertEqual((keeper.order.edges, keeper.net.links), (((0, 1),), ((0, 1, 1, "loose"),)))


class Runs(Case):
    def test_any_deeds(self):
        for seed, keeper in keepers():
            dice = random.Random(seed)
            for step in range(70):
                self.assertEqual(keeper.deeds_now(), deeds_by_words(keeper))
                deed = next_deed(keeper, dice)
                many = None
                if deed[0] != "stop" and dice.random() < 0.15:
                    many = dice.randint(0, len(keeper.small_steps(deed)))
                self.checked(keeper, deed, many)
                if dice.random() < 0.05:
                    keeper.calm_down()
            self.wake_all(keeper)
            keeper.calm_down()
            self.assertTrue(keeper.settled_now())
            self.assertEqual(keeper.shown_now, keeper.risen_now)

    def test_small_steps_cut_at_every_place(self):
        cuts = set()
        for seed, keeper in keepers()[:60]:
            dice = random.Random(seed)
            for step in range(12):
                for deed in keeper.deeds_now():
                    steps = keeper.small_steps(deed)
                    if deed[0] == "stop":
                        self.assertEqual(raised(self, NoDeed, keeper.do_part, deed, 0), {"deed": deed})
                        continue
                    for many in range(len(steps) + 1):
                        self.checked(keeper_twin(keeper), deed, many)
                        cuts.add((deed[0], many, len(steps)))
                    for many in (-1, len(steps) + 1, True, None, "0", 0.0):
                        self.assertEqual(raised(self, BadPart, keeper.do_part, deed, many), {"many": many})
                self.checked(keeper, next_deed(keeper, dice))
        self.assertTrue({("rise", 1, 2), ("deliver", 1, 2), ("deliver", 0, 0), ("wake", 0, 0)} <= cuts)

    def test_a_wake_in_parts(self):
        keeper = Keeper(Order(2, [(0, 1)]), ONE)
        self.checked(keeper, ("rise", 1), 1)
        self.assertEqual((keeper.risen_now, keeper.sent_on(0, 0), keeper.asleep_now), (1, (), (0,)))
        self.assertEqual(keeper.small_steps(("wake", 0)), (("send", 0, 0, 0),))
        self.checked(keeper, ("wake", 0), 0)
        self.checked(keeper, ("wake", 0), 1)
        self.assertEqual((keeper.sent_on(0, 0), keeper.asleep_now), ((0,), (0,)))
        self.assertEqual(keeper.small_steps(("wake", 0)), ())
        self.checked(keeper, ("wake", 0))
        self.assertEqual(keeper.asleep_now, ())

    def test_a_rise_that_is_not_written_is_none(self):
        keeper = Keeper(chain_order(3), Net(2, 0, 1, [(0, 1, 2, "loose")]))
        self.checked(keeper, ("rise", 2), 0)
        self.assertEqual((keeper.risen_now, keeper.asleep_now), (0, (0,)))
        self.assertEqual(raised(self, NoDeed, keeper.do_deed, ("rise", 1)), {"deed": ("rise", 1)})

    def test_no_deeds(self):
        for seed, keeper in keepers()[:30]:
            for step in range(4):
                before = keeper_text(keeper)
                wrong = [deed for deed in NO_DEEDS if deed not in keeper.deeds_now()]
                wrong += [("deliver", link, way, len(keeper.sent_on(link, way)) + 6) for link in range(len(keeper.net)) for way in (0, 1)]
                for deed in wrong:
                    for call, more in ((keeper.do_deed, ()), (keeper.small_steps, ()), (keeper.do_part, (None,))):
                        self.assertIs(raised(self, NoDeed, call, deed, *more)["deed"], deed)
                self.assertEqual(keeper_text(keeper), before)
                self.checked(keeper, next_deed(keeper, random.Random(seed + step)))

    def test_places_before_the_one_read_last_are_gone(self):
        keeper = Keeper(chain_order(3), THICK)
        keeper.do_deed(("rise", 2))
        keeper.calm_down()
        for way in (0, 1):
            last = keeper.read_from(0, way)
            self.assertEqual(last, len(keeper.sent_on(0, way)) - 1)
            self.assertGreater(last, 0)
            for place in range(last):
                deed = ("deliver", 0, way, place)
                self.assertEqual(raised(self, NoDeed, keeper.do_deed, deed), {"deed": deed})
            self.assertEqual(keeper.small_steps(("deliver", 0, way, last)), ())


class Loose(Case):
    """On loose links the keeper is the compiled net."""

    def test_against_the_compiled_net(self):
        followed = 0
        for seed in range(150):
            net, dice = random_net(seed), random.Random(seed)
            size = least_cut(net)[0]
            order = dice.choice([order for order in form_orders() if need_of(order) <= min(size, 6)])
            keeper = Keeper(order, net)
            system = net_system(keeper.code, net, keeper.paths)
            senders, standing = sender_seats(keeper.code), system.first()
            for step in range(60):
                deed = next_deed(keeper, dice)
                before = [keeper.disk_of(node) for node in range(net.nodes)]
                keeper.do_deed(deed)
                if deed[0] in ("rise", "deliver"):
                    seats, standing = standing[0], system.after(standing, deed)
                    # A disk changes exactly if the seat does.
                    self.assertEqual([keeper.disk_of(node) != before[node] for node in range(net.nodes)],
                                     [seat != standing[0][node] for node, seat in enumerate(seats)])
                    followed += 1
                sent = tuple((keeper.sent_on(link, 0), keeper.sent_on(link, 1)) for link in range(len(net)))
                self.assertEqual((sent, keeper.risen_now, keeper.shown_now), (standing[1], standing[2], system.shown(standing)))
                self.assertEqual(keeper.left_now, size - len(senders[standing[0][net.source]][0]))
                self.assertTrue(all(keeper.read_from(link, way) == 0 for link in range(len(net)) for way in (0, 1)))
                if step % 20 == 19 and not keeper.asleep_now:
                    for deed in keeper.calm_down():
                        standing = system.after(standing, deed)
                    self.assertTrue(system.is_settled(standing))
        self.assertGreater(followed, 1000)


class Ordered(Case):
    def test_a_thick_link_letter_by_letter(self):
        for order in (chain_order(2), chain_order(3), flat_order(9), words_order(2, 2)[0], chain_order(24)):
            keeper = Keeper(order, THICK)
            dice = random.Random(order.n)
            while order.above(keeper.risen_now):
                keeper.do_deed(("rise", dice.choice(order.above(keeper.risen_now)[:3])))
                self.follow_letters(keeper, dice)
                self.assertTrue(keeper.settled_now())
            self.assertTrue(set(keeper.sent_on(0, 0) + keeper.sent_on(0, 1)) <= {0, 1, 2})

    def follow_letters(self, keeper, dice):
        """The source is node 1, so letters go on way 1 and echoes on way 0: each letter is echoed, then the next is sent."""
        while not keeper.quiet_now():
            letters, echoes = keeper.sent_on(0, 1), keeper.sent_on(0, 0)
            self.assertEqual(echoes, letters[:len(echoes)])
            self.assertIn(len(letters) - len(echoes), (0, 1))
            self.assertTrue(all(one != other for one, other in zip(letters, letters[1:])))
            deed = dice.choice([deed for deed in keeper.deeds_now() if deed[0] == "deliver"])
            writes = ("write", reached_by(keeper, deed)) in keeper.small_steps(deed)
            # Way 1 tells something new if its last letter has not been echoed, way 0 if its last echo is awaited.
            new = deed[3] == len(letters) - 1 and len(echoes) < len(letters) if deed[2] else (
                deed[3] == len(echoes) - 1 and len(echoes) == len(letters) and keeper.read_from(0, 0) < deed[3] or self.is_first(keeper, deed))
            self.assertEqual(writes, new, (deed, letters, echoes))
            self.checked(keeper, deed)

    def is_first(self, keeper, deed):
        """Tell whether this is the first echo of all, before the second letter is sent or the first number is done."""
        return deed == ("deliver", 0, 0, 0) and len(keeper.sent_on(0, 1)) == 1 and keeper.small_steps(deed) != ()

    def test_paths_over_a_thick_link_share_it(self):
        net = mixed_nets()[5]
        keeper = Keeper(chain_order(5), net)
        self.assertEqual([path[0] for path in keeper.paths], [(0, 0, 0)] * 4)
        keeper.do_deed(("rise", 4))
        # The last echo of a number comes back only when the sink's acknowledgement has come to node 1.
        done = keeper.calm_down()
        self.assertEqual(keeper.shown_now, 4)
        acks = [at for at, deed in enumerate(done) if deed[:3] == ("deliver", 1, 1)]
        self.assertEqual(len(acks), 4)
        for first, second in zip(acks, acks[1:]):
            # Two letters a number, for four paths.
            between = [deed[:3] for deed in done[first:second]]
            self.assertEqual((between.count(("deliver", 0, 0)), between.count(("deliver", 0, 1))), (2, 2))

    def test_a_thin_link_sends_what_came_last_alone(self):
        net = Net(2, 0, 1, [(0, 1, 2, "ordered")])
        keeper = Keeper(chain_order(3), net)
        keeper.do_deed(("rise", 2))
        self.assertEqual(keeper.sent_on(0, 0), (0,))
        self.assertEqual(keeper.do_deed(("deliver", 0, 0, 0)), 1)
        keeper.do_deed(("deliver", 0, 1, 0))
        self.assertEqual((keeper.sent_on(0, 0), keeper.sent_on(0, 1)), ((0, 1), (0,)))
        self.assertEqual(keeper.deeds_now()[:3], (("deliver", 0, 0, 0), ("deliver", 0, 0, 1), ("deliver", 0, 1, 0)))
        self.assertEqual(keeper.small_steps(("deliver", 0, 0, 0)), ())
        self.assertEqual(keeper.do_deed(("deliver", 0, 0, 1)), 2)
        self.assertEqual(keeper.read_from(0, 0), 1)
        self.assertEqual(keeper.calm_down(), (("deliver", 0, 1, 1),))

    def test_a_relay_over_thin_links_both_ways(self):
        net, dice = crossing_net(), random.Random(5)
        for order in (chain_order(5), flat_order(9), words_order(2, 2)[0]):
            keeper = Keeper(order, net)
            for state in (order.covers(0)[0], order.ends[0]):
                if state in order.above(keeper.risen_now):
                    keeper.do_deed(("rise", state))
                while not keeper.quiet_now():
                    self.checked(keeper, dice.choice([deed for deed in keeper.deeds_now() if deed[0] == "deliver"]))
            self.assertTrue(keeper.settled_now())


class Calm(Case):
    def calm_by_words(self, keeper):
        """[15.8]."""
        done, found = [], [None]
        while found:
            found = []
            sent = {(link, way): keeper.sent_on(link, way) for link in range(len(keeper.net)) for way in (0, 1)}
            for (link, way), frames in sorted(sent.items()):
                node = keeper.net.receiver(link, way)
                if node in keeper.asleep_now:
                    continue
                for item in frames if is_loose(keeper, link) else [len(frames) - 1] if frames else []:
                    if ("write", node) in keeper.small_steps(("deliver", link, way, item)):
                        keeper.do_deed(("deliver", link, way, item))
                        found.append(("deliver", link, way, item))
            done += found
        return tuple(done)

    def test_against_the_words(self):
        for seed, keeper in keepers():
            dice = random.Random(seed)
            for _ in range(6):
                for _ in range(dice.randint(0, 12)):
                    keeper.do_deed(next_deed(keeper, dice))
                twin = keeper_twin(keeper)
                self.assertEqual(keeper.calm_down(), self.calm_by_words(twin))
                self.assertEqual(keeper_text(keeper), keeper_text(twin))
                self.assertTrue(keeper.quiet_now())
                settled = not keeper.asleep_now and keeper.shown_now == keeper.risen_now
                self.assertIs(keeper.settled_now(), settled)
                self.assertTrue(settled or keeper.asleep_now)

    def test_quiet(self):
        for seed, keeper in keepers()[:60]:
            dice = random.Random(seed)
            for _ in range(25):
                news = [deed for deed in keeper.deeds_now() if deed[0] == "deliver" and ("write", reached_by(keeper, deed)) in keeper.small_steps(deed)]
                self.assertIs(keeper.quiet_now(), not news)
                keeper.do_deed(next_deed(keeper, dice))


class Stops(Case):
    """[15.9]: a node that stops is as good as a slow one."""

    def test_left_out_stops(self):
        for seed, keeper in keepers():
            dice = random.Random(seed)
            never = Keeper(keeper.order, keeper.net)
            for _ in range(60):
                deed = next_deed(keeper, dice)
                if dice.random() < 0.05:
                    kept = list(keeper.calm_down())
                elif deed[0] != "stop" and dice.random() < 0.4:
                    many = dice.randint(0, len(keeper.small_steps(deed)))
                    keeper.do_part(deed, many)
                    kept = [deed] if many and deed[0] != "wake" else []
                else:
                    keeper.do_deed(deed)
                    kept = [deed] if deed[0] in ("rise", "deliver") else []
                for deed in kept:
                    never.do_deed(deed)
                self.assertEqual([never.disk_of(node) for node in range(never.net.nodes)],
                                 [keeper.disk_of(node) for node in range(never.net.nodes)])
                self.assertEqual((never.shown_now, never.risen_now), (keeper.shown_now, keeper.risen_now))


class Changes(Case):
    def test_till_all_frames_are_spent(self):
        changed, refused = 0, 0
        for seed, keeper in keepers():
            dice, net, order = random.Random(seed), keeper.net, keeper.order
            for _ in range(8):
                for _ in range(dice.randint(0, 25)):
                    self.checked(keeper, next_deed(keeper, dice))
                new, before = dice.choice(form_orders()), standing_of(keeper)
                if not keeper.settled_now():
                    self.assertEqual(raised(self, NotSettled, keeper.change_order, new), {})
                    self.assertEqual(standing_of(keeper), before)
                self.wake_all(keeper)
                keeper.calm_down()
                before, left = standing_of(keeper), keeper.left_now
                if left is not None and need_of(new) > left:
                    told = raised(self, NotEnough, keeper.change_order, new)
                    self.assertEqual(told, {"need": need_of(new), "left": left})
                    self.assertEqual(standing_of(keeper), before)
                    refused += 1
                    continue
                self.assertIsNone(keeper.change_order(new))
                self.check_changed(keeper, new, before)
                changed += 1
        self.assertTrue(changed > 150 and refused > 50)

    def check_changed(self, keeper, new, before):
        after, net = standing_of(keeper), keeper.net
        self.assertTrue(keeper.order == new and keeper.code == deep_code(new, need_of(new)))
        self.assertEqual((after["sent"], after["read"], after["left"]), (before["sent"], before["read"], before["left"]))
        self.assertEqual((after["shown"], after["risen"], after["asleep"]), (0, 0, ()))
        self.assertEqual(len(keeper.paths), need_of(new))
        self.assertIsNone(paths_fault(net, keeper.paths))
        for path in keeper.paths:
            for link, _, frame in path:
                if not is_thick(net, link):
                    self.assertNotIn(frame, keeper.sent_on(link, 0) + keeper.sent_on(link, 1))
        self.assertTrue(keeper.settled_now())

    def test_paths_are_the_first_ones_left(self):
        net = Net(2, 0, 1, [(0, 1, 4, "loose")])
        keeper = Keeper(chain_order(5), net)
        every = keeper.paths
        keeper = Keeper(chain_order(3), net)
        self.assertEqual(keeper.paths, every[:2])
        keeper.do_deed(("rise", 1))
        keeper.calm_down()
        used = keeper.left_now
        self.assertEqual(used, 3)
        sent = keeper.sent_on(0, 0)[0]
        left = tuple(path for path in every if path[0][2] != sent)
        keeper.change_order(flat_order(3))
        self.assertEqual(keeper.paths, left[:2])
        keeper.change_order(chain_order(4))
        self.assertEqual(keeper.paths, left)
        self.assertEqual(raised(self, NotEnough, keeper.change_order, chain_order(5)), {"need": 4, "left": 3})

    def test_left_on_loose_links_is_what_was_not_sent_across_the_cut(self):
        for seed in range(80):
            net, dice = random_net(seed), random.Random(seed)
            size, side = least_cut(net)
            keeper = Keeper(chain_order(1), net)
            for _ in range(6):
                orders = [order for order in form_orders() if need_of(order) <= keeper.left_now]
                keeper.change_order(dice.choice(orders))
                while keeper.order.above(keeper.risen_now) and dice.random() < 0.7:
                    keeper.do_deed(("rise", dice.choice(keeper.order.above(keeper.risen_now))))
                    keeper.calm_down()
                sent = [(keeper.sent_on(link, 0), keeper.sent_on(link, 1)) for link in range(len(net))]
                self.assertEqual(keeper.left_now, count_unsent(net, side, sent))

    def test_a_change_that_is_refused_can_be_made_by_no_tables(self):
        broken = 0
        for seed in range(120):
            net, dice = random_net(seed), random.Random(seed)
            size, side = least_cut(net)
            orders = [order for order in form_orders() if 0 < need_of(order) <= size]
            if not orders:
                continue
            keeper = Keeper(dice.choice(orders), net)
            keeper.do_deed(("rise", dice.choice(keeper.order.ends)))
            keeper.calm_down()
            new = dice.choice(form_orders())
            if need_of(new) <= keeper.left_now:
                continue
            spent = [(link, way, frame) for link in range(len(net)) for way in (0, 1) for frame in keeper.sent_on(link, way)]
            tables = [NodeTable(*random_table(net, node, new, dice, 4)) for node in range(net.nodes)]
            if need_of(new) <= min(size, 6):
                tables = net_system(deep_code(new, need_of(new)), net, Keeper(new, net).paths).tables
            system = System(net, tables, new, None, spent)
            try:
                self.assertTrue(breaks(system, break_by(system, side)))
                broken += 1
            except TooMany:
                pass
        self.assertGreater(broken, 20)

    def test_an_endless_cut(self):
        net = Net(3, 0, 2, [(0, 1, 3, "ordered"), (1, 2, 6, "ordered"), (0, 2, 2, "ordered")])
        keeper, dice = Keeper(chain_order(2), net), random.Random(1)
        for _ in range(12):
            self.assertIsNone(keeper.left_now)
            keeper.do_deed(("rise", dice.choice(keeper.order.ends)))
            keeper.calm_down()
            self.assertTrue(keeper.settled_now() and keeper.shown_now == keeper.risen_now > 0)
            new = dice.choice([chain_order(24), flat_order(24), words_order(2, 3)[0]])
            keeper.change_order(new)
            self.assertEqual(set(keeper.paths), {((0, 0, 0), (1, 0, 0))})

    def test_a_net_of_all_kinds_of_links(self):
        net = crossing_net()
        seen = set()
        for seed in range(60):
            keeper, dice = Keeper(chain_order(2), net), random.Random(seed)
            while True:
                keeper.do_deed(("rise", dice.choice(keeper.order.ends)))
                while not keeper.quiet_now():
                    self.checked(keeper, dice.choice([deed for deed in keeper.deeds_now() if deed[0] == "deliver"]))
                self.assertTrue(keeper.settled_now())
                seen |= {hop[:2] for path in keeper.paths for hop in path}
                orders = [order for order in form_orders() if 0 < need_of(order) <= keeper.left_now]
                if not orders:
                    break
                keeper.change_order(dice.choice(orders))
        self.assertTrue({(0, 0), (1, 0), (3, 0), (4, 0)} <= seen)


class Texts(Case):
    def test_written_and_read_at_any_place(self):
        for seed, keeper in keepers():
            dice = random.Random(seed)
            for step in range(40):
                deed = next_deed(keeper, dice)
                if deed[0] != "stop" and dice.random() < 0.2:
                    keeper.do_part(deed, dice.randint(0, len(keeper.small_steps(deed))))
                else:
                    keeper.do_deed(deed)
                if step % 20 == 19:
                    self.wake_all(keeper)
                    keeper.calm_down()
                    orders = [order for order in form_orders() if keeper.left_now is None or need_of(order) <= keeper.left_now]
                    keeper.change_order(dice.choice(orders))
                if step % 5 == 0:
                    text = keeper_text(keeper)
                    again = dice.choice([read_keeper(text), keeper_twin(keeper)])
                    self.assertEqual(standing_of(again), standing_of(keeper))
                    self.assertTrue(again.order == keeper.order and again.net == keeper.net and again.code == keeper.code)
                    self.assertEqual((keeper_text(again), again.deeds_now()), (text, keeper.deeds_now()))
                    again.do_deed(next_deed(again, dice))
                    self.assertEqual(keeper_text(keeper), text)
                    keeper = read_keeper(text)

    def test_disks_are_data(self):
        for seed, keeper in keepers()[:40]:
            keeper.do_deed((keeper.deeds_now() + (("stop", 0),))[0])
            keeper.calm_down()
            for node in range(keeper.net.nodes):
                self.assertEqual(check_data(keeper.disk_of(node)), keeper.disk_of(node))
                data_text(keeper.disk_of(node))

    def test_equal_texts_by_what_is_known_alone(self):
        # Two deeds that reach unlike nodes can be done in any order.
        net = Net(2, 0, 1, [(0, 1, 2, "loose")])
        keepers = [Keeper(order, net) for order in (Order(3, [(0, 1), (1, 2)]), Order(3, [[1, 2], [0, 1], [0, 2]]))]
        for keeper, deeds in zip(keepers, ((("stop", 1), ("rise", 1), ("wake", 1)), (("rise", 1), ("stop", 1), ("wake", 1)))):
            for deed in deeds:
                keeper.do_deed(deed)
        self.assertEqual(keeper_text(keepers[0]), keeper_text(keepers[1]))
        keepers[0].do_deed(("deliver", 0, 0, keepers[0].sent_on(0, 0)[0]))
        self.assertNotEqual(keeper_text(keepers[0]), keeper_text(keepers[1]))

    def test_what_a_disk_hangs_on(self):
        # A relay's disk is told by the frames that came to it, whatever else went on.
        net = mixed_nets()[9]
        for seed in range(20):
            dice, disks, other = random.Random(seed), {}, random.Random(seed + 99)
            for die in (dice, other):
                keeper, told = Keeper(chain_order(3), net), {node: () for node in range(net.nodes)}
                for _ in range(50):
                    deed = next_deed(keeper, die)
                    node, steps = reached_by(keeper, deed), keeper.small_steps(deed)
                    frame = deed[-1] if deed[0] != "deliver" or is_loose(keeper, deed[1]) else keeper.sent_on(*deed[1:3])[deed[3]]
                    keeper.do_deed(deed)
                    if ("write", node) in steps:
                        told[node] += (deed[:-1] + (frame,),)
                    for one in range(net.nodes):
                        key = (one, told[one])
                        self.assertEqual(disks.setdefault(key, keeper.disk_of(one)), keeper.disk_of(one))

    def test_bad_texts(self):
        text = keeper_text(Keeper(chain_order(2), ONE))
        for bad in ("", text[:-1], "(keeper 01)", "(keeper  1)"):
            self.assertEqual(set(raised(self, BadText, read_keeper, bad)), {"place"})
        self.assertEqual(raised(self, BadText, read_keeper, text + ")"), {"place": len(text)})


class Told(unittest.TestCase):
    def test_the_shown_state_is_told_by_the_sinks_row(self):
        keeper = Keeper(chain_order(3), Net(2, 0, 1, [(0, 1, 2, "loose")]))
        keeper.do_deed(("rise", 2))
        keeper.calm_down()
        self.assertEqual(keeper.shown_now, shown_state(keeper.code, (0, 1)))


if __name__ == "__main__":
    unittest.main()
