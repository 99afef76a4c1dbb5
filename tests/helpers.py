"""Things that several tests share: orders and codes of many forms, and a check of errors with their attributes."""

import itertools
import random

from spentframes.codes import Code, deep_code
from spentframes.flows import greatest_paths, paths_fault
from spentframes.makers import chain_order
from spentframes.needs import need_of, need_table
from spentframes.nets import Net
from spentframes.orders import Order
from spentframes.plans import plan_of_lengths
from spentframes.systems import System
from spentframes.tables import NodeTable


def raised(case, error, call, *given, **named):
    """Return the attributes of the error that a call must raise, without those of Python's own."""
    with case.assertRaises(error) as held:
        call(*given, **named)
    case.assertIs(type(held.exception), error)
    return vars(held.exception)


def random_pairs(n, seed):
    """Return pairs of an order of n states in which 0 lies below all others and numbers may fall."""
    dice = random.Random(seed)
    names = [0] + dice.sample(range(1, n), n - 1)
    chance = dice.choice([0.1, 0.25, 0.5, 0.9])
    pairs = [[names[a], names[b]] for a, b in itertools.combinations(range(n), 2) if dice.random() < chance]
    pairs += [(0, state) for state in range(1, n)]
    pairs += dice.choices(pairs, k=3) if pairs else []
    dice.shuffle(pairs)
    return pairs


def forms():
    """Return (n, pairs) of orders of several forms."""
    made = [
        (1, []),
        (2, [(0, 1)]),
        (5, [(k, k + 1) for k in range(4)]),
        (6, [(0, k) for k in range(1, 6)]),
        (7, [((k - 1) // 2, k) for k in range(1, 7)]),
        (4, [(0, 1), (0, 2), (1, 3), (2, 3)]),
        (4, [[0, 3], [3, 2], [2, 1], [0, 1], [0, 1]]),
        (5, [(0, 4), (4, 1), (0, 2), (2, 3), (4, 3), (0, 3)]),
        (6, [(0, 1), (0, 2), (1, 3), (1, 4), (2, 4), (2, 5), (1, 5)]),
        (8, [(0, 1), (0, 2), (0, 4), (1, 3), (2, 3), (1, 5), (4, 5), (2, 6), (4, 6), (3, 7), (5, 7), (6, 7)]),
    ]
    return made + [(2 + seed % 8, random_pairs(2 + seed % 8, seed)) for seed in range(40)]


def form_orders():
    """Return orders of several forms."""
    return [Order(n, pairs) for n, pairs in forms()]


def wide_order():
    """Return an order of 24 states: 0, then seven layers of three, then two ends."""
    layers = [[0]] + [[3 * k + 1, 3 * k + 2, 3 * k + 3] for k in range(7)] + [[22, 23]]
    pairs = [(a, b) for low, high in zip(layers, layers[1:]) for a in low for b in high]
    return Order(24, pairs)


def shuffled(plan, k, dice):
    """Return a plan with other frames in the place of these."""
    names = dice.sample(range(k), k)
    return [[names[frame] for frame in row] for row in plan]


def random_code(order, m, seed):
    """Return any right code, with plans of any lengths that leave each cover its need."""
    dice = random.Random(seed)
    needs, entries, waiting, seen = need_table(order), [], [(0, m)], set()
    while waiting:
        state, k = waiting.pop()
        covers = order.covers(state)
        if (state, k) in seen or not covers:
            continue
        seen.add((state, k))
        plan = None
        while plan is None:
            deep = [k - needs[cover] for cover in covers]
            lengths = [dice.randint(1, most) if dice.random() < 0.5 else most for most in deep]
            plan = plan_of_lengths(order, state, k, lengths)
        entries.append([state, k, shuffled(plan, k, dice)])
        waiting += [(cover, k - length) for cover, length in zip(covers, lengths)]
    dice.shuffle(entries)
    return Code(order, m, entries)


def right_codes():
    """Return right codes of many orders, with as many frames as are needed and with some more."""
    codes = [Code(chain_order(1), 0, []), Code(chain_order(1), 24, ())]
    for at, order in enumerate(form_orders()):
        for more in (0, 1, 3):
            m = need_of(order) + more
            codes += [deep_code(order, m), random_code(order, m, at)]
    return codes


def all_courses(order):
    """Return all courses from state 0, ascending; they need not lead to an end."""
    return sorted({course[:k] for course in order.each_course(0) for k in range(1, len(course) + 1)})


def rows_told(code):
    """Return the row of each course from state 0, piece by piece along the entries of the code."""
    plans = {(state, k): plan for state, k, plan in code.entries}
    rows = {(0,): ()}
    for course in all_courses(code.order)[1:]:
        row = rows[course[:-1]]
        left = sorted(set(range(code.m)) - set(row))
        at = code.order.covers(course[-2]).index(course[-1])
        rows[course] = row + tuple(left[item] for item in plans[(course[-2], len(left))][at])
    return rows


def random_net(seed, loose=True):
    """Return a net of 2 to 6 nodes and 0 to 12 links; with `loose` all links are loose."""
    dice = random.Random(seed)
    nodes = dice.randint(2, 6)
    source, sink = dice.sample(range(nodes), 2)
    kinds = ["loose"] if loose else ["loose", "ordered"]
    most = dice.choice([1, 2, 6])
    links = [tuple(dice.sample(range(nodes), 2)) + (dice.randint(1, most), dice.choice(kinds))
             for _ in range(dice.randint(0, 12))]
    return Net(nodes, source, sink, links)


def random_table(net, node, order, dice, seats):
    """Return the arguments of a node table that fits a node of a net, with a list for each seat."""
    couples = [(link, frame) for link in net.links_of(node) for frame in range(net.links[link][2])]
    sends = [dice.sample(couples, min(len(couples), dice.randint(0, 2))) for _ in range(seats)]
    moves = [[couple + (dice.randrange(seats),) for couple in couples if dice.random() < 0.6] for _ in range(seats)]
    rises = [[(state, dice.randrange(seats)) for state in range(order.n) if dice.random() < 0.7] for _ in range(seats)]
    shows = [0] + [dice.randrange(order.n) for _ in range(seats - 1)]
    return sends, moves, rises if node == net.source else None, shows if node == net.sink else None


def random_system(seed, goals=False, seats=4):
    """Return a system of random tables over a random net."""
    dice = random.Random(seed)
    net = random_net(seed)
    order = dice.choice([order for order in form_orders() if 1 < order.n < 8])
    tables = [NodeTable(*random_table(net, node, order, dice, dice.randint(1, seats))) for node in range(net.nodes)]
    triples = [(link, way, frame) for link in range(len(net)) for way in (0, 1) for frame in range(net.links[link][2])]
    spent = dice.sample(triples, min(len(triples), dice.choice([0, 0, 2])))
    chosen = dice.sample(range(1, order.n), dice.randint(1, order.n - 1)) if goals else None
    return System(net, tables, order, chosen, spent)


def relay_system():
    """Return a system over three nodes in a row, 0, 2 and 1, that keeps the order of two states."""
    net = Net(3, 0, 1, [(0, 2, 1, "loose"), (1, 2, 1, "loose")])
    source = NodeTable([[], [(0, 0)], []], [[], [(0, 0, 2)], []], [[(1, 1)], [], []])
    sink = NodeTable([[], [(1, 0)]], [[(1, 0, 1)], []], None, [0, 1])
    relay = NodeTable([[], [(1, 0)], [(1, 0), (0, 0)]], [[(0, 0, 1)], [(1, 0, 2)], []])
    return System(net, [source, sink, relay], Order(2, [(0, 1)]))


def random_run(system, many, seed):
    """Return a run of at most so many deeds, any of those that can be done at each place."""
    dice = random.Random(seed)
    run, standing = (), system.first()
    while len(run) < many and system.deeds_from(standing):
        run += (dice.choice(system.deeds_from(standing)),)
        standing = system.after(standing, run[-1])
    return run


def some_paths(net, seed):
    """Return sequences of right paths of a net: none, all that there are, some of them, and any that a walk finds."""
    dice = random.Random(seed)
    paths = greatest_paths(net, dice.choice([1, 2, 4, 99]))
    some = tuple(path for path in paths if dice.random() < 0.6)
    return [(), paths, some, tuple(dice.sample(paths, len(paths))), walked_paths(net, dice)]


def walked_paths(net, dice):
    """Return right paths that are found by walks without a look at what is left for others."""
    hops = [(link, way, 0 if frames > 2 and kind == "ordered" else frame) for link, (_, _, frames, kind) in enumerate(net.links)
            for way in (0, 1) for frame in range(frames)]
    paths = ()
    for _ in range(12):
        path, nodes = (), [net.source]
        while nodes[-1] != net.sink:
            nexts = [hop for hop in hops if net.sender(*hop[:2]) == nodes[-1] and net.receiver(*hop[:2]) not in nodes]
            if not nexts:
                break
            path += (dice.choice(nexts),)
            nodes.append(net.receiver(*path[-1][:2]))
        if nodes[-1] == net.sink and paths_fault(net, paths + (path,)) is None:
            paths += (path,)
    return paths
