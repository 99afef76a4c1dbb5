"""Things that several tests share: orders of many forms, and a check of errors with their attributes."""

import itertools
import random

from spentframes.orders import Order


def raised(case, error, call, *given, **named):
    """Return the attributes of the error that a call must raise, without those of Python's own."""
    with case.assertRaises(error) as held:
        call(*given, **named)
    case.assertIs(type(held.exception), error)
    return vars(held.exception)


def random_pairs(n, seed):
    """Return pairs of an order of n states in which 0 lies below all others and numbers may fall."""
    dice = random.Random(seed)
    names = [0] + dice.sample(range(1, n), n - 1)
    chance = dice.choice([0.1, 0.25, 0.5, 0.9])
    pairs = [[names[a], names[b]] for a, b in itertools.combinations(range(n), 2) if dice.random() < chance]
    pairs += [(0, state) for state in range(1, n)]
    pairs += dice.choices(pairs, k=3) if pairs else []
    dice.shuffle(pairs)
    return pairs


def forms():
    """Return (n, pairs) of orders of several forms."""
    made = [
        (1, []),
        (2, [(0, 1)]),
        (5, [(k, k + 1) for k in range(4)]),
        (6, [(0, k) for k in range(1, 6)]),
        (7, [((k - 1) // 2, k) for k in range(1, 7)]),
        (4, [(0, 1), (0, 2), (1, 3), (2, 3)]),
        (4, [[0, 3], [3, 2], [2, 1], [0, 1], [0, 1]]),
        (5, [(0, 4), (4, 1), (0, 2), (2, 3), (4, 3), (0, 3)]),
        (6, [(0, 1), (0, 2), (1, 3), (1, 4), (2, 4), (2, 5), (1, 5)]),
        (8, [(0, 1), (0, 2), (0, 4), (1, 3), (2, 3), (1, 5), (4, 5), (2, 6), (4, 6), (3, 7), (5, 7), (6, 7)]),
    ]
    return made + [(2 + seed % 8, random_pairs(2 + seed % 8, seed)) for seed in range(40)]


def form_orders():
    """Return orders of several forms."""
    return [Order(n, pairs) for n, pairs in forms()]


def wide_order():
    """Return an order of 24 states: 0, then seven layers of three, then two ends."""
    layers = [[0]] + [[3 * k + 1, 3 * k + 2, 3 * k + 3] for k in range(7)] + [[22, 23]]
    pairs = [(a, b) for low, high in zip(layers, layers[1:]) for a in low for b in high]
    return Order(24, pairs)
