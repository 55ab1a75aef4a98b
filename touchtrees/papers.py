"""Certificates for logs: a shape that agrees, an entry in conflict, or a table that shows that no shape agrees."""

from touchtrees.observations import check_log, find_shape, log_of, splits_in, tops_before
from touchtrees.shapes import is_shape_over
from touchtrees.spines import joined_pairs, spine_pairs
from touchtrees.structure import restrict, search_path


def entry_conflicts(top, key, cost):
    """Returns whether an entry contradicts the touches before it, given the shape of the keys touched by them."""
    path = search_path(top, key)
    if key in top:
        # The path ends with the key itself, and no untouched key is above it.
        return cost != len(path) - 1
    return cost < len(path)


def conflicts_in(log):
    """Returns the ascending list of the indexes of the entries of a checked log that are in conflict."""
    tops = tops_before(log)
    return [pos for pos, (key, cost) in enumerate(log) if entry_conflicts(tops[pos], key, cost)]


def gaps_from(splits, low, high):
    """Returns the list of a gap and of all gaps that it is split into, each one before its parts."""
    if (low, high) not in splits:
        return [(low, high)]
    key = splits[(low, high)][0]
    return [(low, high)] + gaps_from(splits, low, key) + gaps_from(splits, key, high)


def required_pairs(keys, splits, listed, gap):
    """Returns the ascending list of the pairs that the row of a gap must have, given the pairs of all later rows."""
    low, high = gap
    if gap not in splits:
        return spine_pairs(len(restrict(keys, low=low, high=high)))
    key, depth = splits[gap]
    found = {}
    for smaller in sorted(set(listed[(low, key)])):
        for greater in sorted(set(listed[(key, high)])):
            for pair in joined_pairs(smaller, greater, depth):
                found[pair] = True
    return sorted(found)


def table_rows(keys, log):
    """Returns the rows of the table for a checked log, with no further pairs."""
    splits = splits_in(log)
    gaps = gaps_from(splits, None, None)
    listed = {}
    # Each gap comes before its parts, so that backwards the rows of the parts are there.
    for gap in gaps[::-1]:
        listed[gap] = required_pairs(keys, splits, listed, gap)
    return [(low, high, listed[(low, high)]) for low, high in gaps]


def log_paper(keys, log):
    """Returns a certificate for the log."""
    shape = find_shape(keys, log)
    if shape is not None:
        return "shape", shape
    conflicts = conflicts_in(log)
    if conflicts:
        return "conflict", conflicts[0]
    return "table", table_rows(keys, log)


def shape_agrees(keys, log, shape):
    """Returns whether a tuple of integers is a shape over the keys that agrees with a checked log."""
    return is_shape_over(shape, keys) and log_of(shape, [key for key, cost in log]) == list(log)


def row_holds(keys, splits, listed, gap):
    """Returns whether the row of a gap lists at least what it must list."""
    return len(set(required_pairs(keys, splits, listed, gap)) - set(listed[gap])) == 0


def table_holds(keys, log, rows):
    """Returns whether rows are a correct table for a checked log."""
    splits = splits_in(log)
    gaps = gaps_from(splits, None, None)
    if [(low, high) for low, high, pairs in rows] != gaps:
        return False
    listed = {(low, high): pairs for low, high, pairs in rows}
    return not listed[(None, None)] and all([row_holds(keys, splits, listed, gap) for gap in gaps])


def log_paper_holds(keys, log, paper):
    """Returns whether a pair is a correct certificate for the log."""
    check_log(keys, log)
    word, worth = paper
    if word == "shape":
        return shape_agrees(keys, log, worth)
    if word == "conflict":
        return worth in conflicts_in(log)
    return word == "table" and table_holds(keys, log, worth)
