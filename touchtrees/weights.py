"""Keys that are touched with different probabilities: mean costs in the limit, and best fixed shapes."""

from touchtrees.errors import BadWeight, TooManyKeys
from touchtrees.structure import all_depths, require_key

MAX_WEIGHT = 1000
MAX_WEIGHTED = 12


def checked_weights(keys, weights):
    """Returns a dict from each key of a list or shape to its weight; raises TooManyKeys, NoKey or BadWeight."""
    if len(keys) > MAX_WEIGHTED:
        raise TooManyKeys(MAX_WEIGHTED)
    given = {} if weights is None else weights
    for key in sorted(given):
        require_key(keys, key)
    for key in sorted(given):
        if not 1 <= given[key] <= MAX_WEIGHT:
            raise BadWeight(key)
    return {key: given.get(key, 1) for key in keys}


def common_divisor(one, other):
    """Returns the greatest common divisor of two integers, the first one positive and the second one not negative."""
    while other:
        one, other = other, one % other
    return one


def mean_cost(keys, *, weights=None):
    """Returns the mean cost as a pair (numerator, denominator) in lowest terms."""
    heavy = list(checked_weights(keys, weights).values())
    top, bottom = 0, 1
    for start in range(len(heavy)):
        for end in range(start + 1, len(heavy)):
            # Each of two keys costs the other one a rotation if it is above it.
            part = 2 * heavy[start] * heavy[end]
            whole = sum(heavy) * sum(heavy[start:end + 1])
            top, bottom = top * whole + part * bottom, bottom * whole
            shared = common_divisor(bottom, top)
            top, bottom = top // shared, bottom // shared
    return top, bottom


def weighted_depth(shape, *, weights=None):
    """Returns the sum over all keys of the weight times the depth."""
    heavy = checked_weights(shape, weights)
    depths = all_depths(shape)
    return sum([heavy[key] * depths[key] for key in shape])


def best_between(keys, heavy, table, start, end):
    """Returns the pair of the least weighted depth over a part of the keys and its least shape, given shorter parts."""
    if start == end:
        return 0, ()
    found = []
    for at in range(start, end):
        low_depth, low_shape = table[(start, at)]
        high_depth, high_shape = table[(at + 1, end)]
        # Below this root, each other key is one level deeper than in its part.
        deeper = sum([heavy[key] for key in keys[start:end]]) - heavy[keys[at]]
        found.append((low_depth + high_depth + deeper, (keys[at],) + low_shape + high_shape))
    return min(found)


def best_fixed(keys, *, weights=None):
    """Returns the pair of the shape with the least weighted depth, the least tuple of these, and this depth."""
    heavy = checked_weights(keys, weights)
    table = {}
    for many in range(len(keys) + 1):
        for start in range(len(keys) - many + 1):
            table[(start, start + many)] = best_between(keys, heavy, table, start, start + many)
    depth, shape = table[(0, len(keys))]
    return shape, depth
