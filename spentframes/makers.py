"""Orders made from numbers, rules and other orders."""

from spentframes.errors import BadMake
from spentframes.orders import MOST_STATES, Order
from spentframes.wholes import is_couple, is_sequence, is_whole

MOST_FACTS = 8
MOST_RULES = 64
MOST_LETTERS = 23


def _check_states(n):
    """Raise BadMake if n is no number of states."""
    if not is_whole(n, 1, MOST_STATES):
        raise BadMake("states", 0)


def _check_many(n):
    """Raise BadMake if a result would have too many states."""
    if n > MOST_STATES:
        raise BadMake("many", 0)


def chain_order(n):
    """Return the order in which each state lies below the next one."""
    _check_states(n)
    return Order(n, [(state, state + 1) for state in range(n - 1)])


def flat_order(n):
    """Return the order in which 0 lies below all others, and nothing else."""
    _check_states(n)
    return Order(n, [(0, state) for state in range(1, n)])


def _check_facts(facts, rules):
    """Raise BadMake if there is no such number of facts or the rules are no rules about them."""
    if not is_whole(facts, 0, MOST_FACTS):
        raise BadMake("facts", 0)
    if not is_sequence(rules) or len(rules) > MOST_RULES:
        raise BadMake("rules", 0)
    for at, rule in enumerate(rules):
        if not is_couple(rule, facts - 1):
            raise BadMake("rule", at)


def _keeps_rules(kept, rules):
    """Tell whether a set of facts lacks a or holds b for each rule (a, b)."""
    return all([a not in kept or b in kept for a, b in rules])


def facts_order(facts, rules):
    """Return (order, sets): the sets of facts that keep all rules, one below another if the other holds it."""
    _check_facts(facts, rules)
    sets = [()]
    for fact in range(facts):
        sets = sets + [kept + (fact,) for kept in sets]
    sets = sorted([kept for kept in sets if _keeps_rules(kept, rules)], key=lambda one: (len(one), one))
    _check_many(len(sets))
    pairs = []
    for low in range(len(sets)):
        for high in range(low + 1, len(sets)):
            if all([fact in sets[high] for fact in sets[low]]):
                pairs.append((low, high))
    return Order(len(sets), pairs), tuple(sets)


def words_order(letters, depth):
    """Return (order, words): the tuples of at most `depth` letters, one below those that it begins."""
    if not is_whole(letters, 1, MOST_LETTERS):
        raise BadMake("letters", 0)
    if not is_whole(depth, 0, MOST_STATES - 1):
        raise BadMake("depth", 0)
    words = [()]
    longest = [()]
    for _ in range(depth):
        longest = [word + (letter,) for word in longest for letter in range(letters)]
        words = words + longest
        # Checked here, as the words of all lengths would be far too many to be made first.
        _check_many(len(words))
    pairs = [(words.index(word[:-1]), at) for at, word in enumerate(words) if word]
    return Order(len(words), pairs), tuple(words)


def product_order(one, other):
    """Return the order of the couples (x, y), called x * other.n + y."""
    n = one.n * other.n
    _check_many(n)
    pairs = [(low * other.n + y, high * other.n + y) for low, high in one.edges for y in range(other.n)]
    pairs = pairs + [(x * other.n + low, x * other.n + high) for low, high in other.edges for x in range(one.n)]
    return Order(n, pairs)


def beside_order(one, other):
    """Return the order in which both share their least state and nothing else."""
    n = one.n + other.n - 1
    _check_many(n)
    names = [0] + list(range(one.n, n))
    return Order(n, list(one.edges) + [(names[low], names[high]) for low, high in other.edges])


def stacked_order(one, other):
    """Return the order in which all states of the other lie above all states of one."""
    n = one.n + other.n
    _check_many(n)
    pairs = [(one.n + low, one.n + high) for low, high in other.edges]
    return Order(n, list(one.edges) + [(end, one.n) for end in one.ends] + pairs)


def _kept_order(order, kept):
    """Return the order of some of the states; state k of it is kept[k]."""
    pairs = []
    for low in range(len(kept)):
        for high in range(len(kept)):
            if kept[high] in order.above(kept[low]):
                pairs.append((low, high))
    return Order(len(kept), pairs)


def without_state(order, state):
    """Return the order without a state; greater numbers move down by one."""
    if not is_whole(state, 1, order.n - 1):
        raise BadMake("state", 0)
    return _kept_order(order, [other for other in range(order.n) if other != state])


def _are_names(order, names):
    """Tell whether a thing is a sequence that holds each state once, 0 first."""
    if not is_sequence(names) or len(names) != order.n:
        return False
    if not all([is_whole(name, 0, order.n - 1) for name in names]):
        return False
    return names[0] == 0 and sorted(names) == list(range(order.n))


def renamed_order(order, names):
    """Return the order in which state x is called names[x]."""
    if not _are_names(order, names):
        raise BadMake("names", 0)
    return Order(order.n, [(names[low], names[high]) for low, high in order.edges])


def upper_order(order, state):
    """Return (upper, kept): the order of a state and those above it; state k of it is kept[k]."""
    if not is_whole(state, 0, order.n - 1):
        raise BadMake("state", 0)
    kept = (state,) + order.above(state)
    return _kept_order(order, kept), kept
