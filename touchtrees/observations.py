"""Logs of touched keys and costs, and the hidden shapes that agree with them."""

from touchtrees.errors import BadCost, TooLong, TooManyKeys
from touchtrees.rotations import put_on_top
from touchtrees.spines import free_table, joined_table
from touchtrees.structure import depth_of, nearest_on, require_key, restrict, search_path
from touchtrees.touching import touch_all

MAX_LOG_KEYS = 12
MAX_LOG = 60


def log_of(shape, touches):
    """Returns the log of a list of touches that begin with the shape."""
    costs = touch_all(shape, touches)[1]
    return list(zip(touches, costs))


def check_log(keys, log):
    """Raises TooManyKeys, TooLong, and NoKey or BadCost of the first entry that has such an error."""
    if len(keys) > MAX_LOG_KEYS:
        raise TooManyKeys(MAX_LOG_KEYS)
    if len(log) > MAX_LOG:
        raise TooLong(MAX_LOG)
    for pos, (key, cost) in enumerate(log):
        require_key(keys, key)
        if cost < 0:
            raise BadCost(pos)


def tops_before(log):
    """Returns a list of the shapes of the touched keys, before each entry of a log."""
    tops = []
    top = ()
    for key, cost in log:
        tops.append(top)
        top = put_on_top(top, key)
    return tops


def gap_of(top, key, cost):
    """Returns the tuple of read_gaps for the first touch of a key, with the touched keys before it."""
    path = search_path(top, key)
    # The nearest touched keys are among those that a search for the key visits.
    low, high = nearest_on(path, key)
    return low, high, key, cost - len(path)


def gaps_in(log):
    """Returns what read_gaps returns for a checked log."""
    tops = tops_before(log)
    return [gap_of(top, key, cost) for top, (key, cost) in zip(tops, log) if key not in top]


def read_gaps(keys, log):
    """Returns a list of tuples (low, high, key, depth), one for each first touch of a key."""
    check_log(keys, log)
    return gaps_in(log)


def repeats_agree(log):
    """Returns whether each key that was touched before has the cost that the touches before it lead to."""
    tops = tops_before(log)
    return all([cost == depth_of(top, key) for top, (key, cost) in zip(tops, log) if key in top])


def splits_in(log):
    """Returns a dict from each gap that a first touch of a checked log splits to the key and its depth."""
    return {(low, high): (key, depth) for low, high, key, depth in gaps_in(log)}


def gap_table(keys, splits, low, high):
    """Returns the table of the restrictions of the hidden shape to a gap, given the keys that split gaps."""
    if (low, high) not in splits:
        return free_table(list(restrict(keys, low=low, high=high)))
    key, depth = splits[(low, high)]
    smaller = gap_table(keys, splits, low, key)
    greater = gap_table(keys, splits, key, high)
    return joined_table(smaller, key, greater, depth)


def agreeing_table(keys, log):
    """Returns a dict from pairs of spine lengths to the number of agreeing shapes that have them and one of these."""
    if not repeats_agree(log):
        return {}
    return gap_table(keys, splits_in(log), None, None)


def count_agreeing(keys, log):
    """Returns what count_shapes returns for a checked log."""
    return sum([number for number, shape in agreeing_table(keys, log).values()])


def count_shapes(keys, log):
    """Returns the number of shapes over the keys that agree with the log."""
    check_log(keys, log)
    return count_agreeing(keys, log)


def find_shape(keys, log):
    """Returns a shape that agrees with the log, or None if there is none."""
    check_log(keys, log)
    return min([shape for number, shape in agreeing_table(keys, log).values()], default=None)


def next_costs(keys, log, key):
    """Returns the ascending list of pairs (cost, number) for a touch of the key after the log."""
    check_log(keys, log)
    require_key(keys, key)
    found = []
    # No key has more keys above it than there are others.
    for cost in range(len(keys)):
        number = count_agreeing(keys, list(log) + [(key, cost)])
        if number > 0:
            found.append((cost, number))
    return found
