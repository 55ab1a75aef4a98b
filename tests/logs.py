"""Logs for the tests, and what nested trees say of them."""

import random

from touchtrees.errors import BadCost, NoKey, TooLong, TooManyKeys

import trees

TWELVE = list(range(-5, 19, 2))
LISTS = [[-7, -2, 0, 1, 5, 8][:many] for many in range(7)]
ALL_TREES = {len(keys): trees.all_trees(keys) for keys in LISTS}
# Tuples (error, its field, keys, log) for what is no log; two errors apply to many of them.
NO_LOGS = [
    (TooManyKeys, 12, list(range(13)), []),
    (TooManyKeys, 12, list(range(14)), [(1, 0)]),
    (TooManyKeys, 12, list(range(40)), []),
    (TooManyKeys, 12, list(range(13)), [(99, -1)] * 61),
    (TooLong, 60, [1, 2], [(1, 0)] * 61),
    (TooLong, 60, [1, 2], [(1, 0)] * 200),
    (TooLong, 60, list(range(12)), [(99, -1)] * 61),
    (NoKey, 99, list(range(12)), [(99, -1)] * 60),
    (NoKey, 3, [1, 2], [(3, 0)]),
    (NoKey, 10 ** 30, [1, 2], [(10 ** 30, 0)]),
    (NoKey, 3, [1, 2], [(1, 0), (3, -1), (2, -1), (0, 0)]),
    (NoKey, 0, [1, 2], [(1, 0)] * 59 + [(0, -1)]),
    (NoKey, 3, [1, 2], [(1, 7), (1, 7), (3, 0)]),
    (BadCost, 0, [1, 2], [(1, -1)]),
    (BadCost, 0, [1, 2], [(1, -10 ** 30), (3, 0)]),
    (BadCost, 2, [1, 2], [(1, 0), (1, 0), (1, -1), (2, -1), (3, 0)]),
    (BadCost, 2, [1, 2], [(1, 7), (1, 7), (2, -1)]),
    (BadCost, 59, [1, 2], [(1, 0)] * 59 + [(2, -1)])]


def tree_log(tree, touches):
    """The log of touches, rotation by rotation."""
    return list(zip(touches, trees.touched_all(tree, touches)[1]))


def random_log(rng, keys, many):
    """A log of so many touches that some tree over the keys agrees with."""
    return tree_log(trees.random_tree(rng, keys), rng.choices(keys, k=many))


def some_logs():
    """Pairs (keys, log) over up to six keys, with costs as they are and with changed costs."""
    rng = random.Random(18)
    found = [(keys, []) for keys in LISTS]
    for keys in LISTS[1:]:
        for _ in range(35):
            log = tree_log(rng.choice(ALL_TREES[len(keys)]), rng.choices(keys, k=rng.randrange(1, 2 * len(keys) + 2)))
            found.append((keys, log))
            changed = list(log)
            at = rng.randrange(len(log))
            changed[at] = (log[at][0], max(0, log[at][1] + rng.choice((-1, 1, 1, 2))))
            found.append((keys, changed))
            found.append((keys, [(key, rng.randrange(len(keys) + 1)) for key, cost in log[:3]]))
    return found


LOGS = some_logs()


def agreeing(keys, log):
    """All trees that agree with a log over up to six keys."""
    touches = [key for key, cost in log]
    return [tree for tree in ALL_TREES[len(keys)] if tree_log(tree, touches) == list(log)]


def entries_seen(keys, log):
    """A tuple (key, cost, touched keys before, touched keys above it) for each entry, read off a nested tree."""
    tree = trees.random_tree(random.Random(7), keys)
    touched = []
    found = []
    for key, cost in log:
        above = [other for other in set(touched) if (other, key) in trees.pairs_above(tree)]
        found.append((key, cost, sorted(set(touched)), above))
        touched.append(key)
        tree = trees.touched(tree, key)[0]
    return found


def expected_gaps(keys, log):
    """The gaps of a log by their definition."""
    found = []
    for key, cost, touched, above in entries_seen(keys, log):
        if key not in touched:
            low = max([other for other in touched if other < key], default=None)
            high = min([other for other in touched if other > key], default=None)
            found.append((low, high, key, cost - len(above)))
    return found


def expected_conflicts(keys, log):
    """The indexes of all entries that contradict the touches before them."""
    return [
        pos for pos, (key, cost, touched, above) in enumerate(entries_seen(keys, log))
        if (cost != len(above) if key in touched else cost < len(above))]
