"""Which orders and goals an ordered pair can keep with how few frames, and pairs that keep them."""

from spentframes.errors import TooFew
from spentframes.goals import check_goals
from spentframes.makers import beside_order, chain_order, flat_order
from spentframes.pairs import OrderedPair
from spentframes.rows import MOST_LISTED, check_count
from spentframes.speech import speaking_tables

ENOUGH_FRAMES = 3


def _are_comparable(order, one, other):
    """Tell whether one of two states is at most the other one."""
    return order.at_most(one, other) or order.at_most(other, one)


def three_apart(order, names):
    """Return three of ascending goals no two of which are comparable, ascending, or None."""
    for x in names:
        apart = [y for y in names if y > x and not _are_comparable(order, x, y)]
        for y in apart:
            for z in apart:
                if z > y and not _are_comparable(order, y, z):
                    return x, y, z
    return None


def _two_chains(order, names):
    """Return two ascending tuples of goals, each of comparable ones; no three goals are apart.

    A goal goes into the other chain than those to which it is not comparable. That no three are apart leaves no
    contradiction in this.
    """
    chains = {}
    for start in names:
        if start not in chains:
            chains[start] = 0
            waiting = [start]
            while waiting:
                goal = waiting.pop()
                for other in names:
                    if other not in chains and not _are_comparable(order, goal, other):
                        chains[other] = 1 - chains[goal]
                        waiting.append(other)
    return tuple([tuple([name for name in names if chains[name] == chain]) for chain in range(2)])


def chains_or_three(order, goals):
    """Return ("chains", one, other) for goals of two chains, or ("three", x, y, z) for three that are apart."""
    names = check_goals(order, goals)
    three = three_apart(order, names)
    return (("chains",) + _two_chains(order, names)) if three is None else (("three",) + three)


def _fits_order(order, m):
    """Tell whether an ordered pair of m frames can keep an order."""
    if m >= ENOUGH_FRAMES:
        return True
    if m < 2:
        return order.n <= m + 1
    return len(order.covers(0)) <= 2 and all([len(order.covers(state)) <= 1 for state in range(1, order.n)])


def _fits_goals(order, names, m):
    """Tell whether an ordered pair of m frames can keep goals to one of which the source rises once."""
    if m >= ENOUGH_FRAMES:
        return True
    if m < 2:
        return len(names) == m
    return three_apart(order, names) is None


def fits_ordered(order, m, goals=None):
    """Tell whether an ordered pair of m frames can keep an order, or goals to one of which the source rises once."""
    check_count(m, MOST_LISTED)
    if goals is None:
        return _fits_order(order, m)
    return _fits_goals(order, check_goals(order, goals), m)


def _upward(order, chain):
    """Return the goals of a chain, each below the next one."""
    return sorted(chain, key=lambda goal: len(order.below(goal)))


def _speech_of_goals(order, names, m):
    """Return the order of places in which goals are told, and the state that each place shows."""
    if m >= ENOUGH_FRAMES:
        return flat_order(len(names) + 1), [0] + list(names)
    one, other = _two_chains(order, names)
    spoken = beside_order(chain_order(len(one) + 1), chain_order(len(other) + 1))
    return spoken, [0] + _upward(order, one) + _upward(order, other)


def ordered_pair(order, m, goals=None):
    """Return an ordered pair of m frames that keeps an order, or goals to one of which the source rises once."""
    if not fits_ordered(order, m, goals) or m == 0:
        raise TooFew()
    if goals is None:
        return OrderedPair(order, m, speaking_tables(order, m, list(range(order.n)), False))
    spoken, shown = _speech_of_goals(order, check_goals(order, goals), m)
    return OrderedPair(order, m, speaking_tables(spoken, m, shown, True), goals)
