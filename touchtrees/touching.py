"""Touches, and what is done by touches: insertions, removals, cuts and joins, with their costs."""

from touchtrees.errors import BadKey, DuplicateKey, Overlap, TooManyKeys
from touchtrees.rotations import put_on_top
from touchtrees.shapes import MAX_KEYS, is_key
from touchtrees.structure import depth_of, parts_of, restrict, search_path


def touch(shape, key):
    """Returns the pair of the shape after touching the key, and the cost."""
    # Each rotation takes the key one level up.
    cost = depth_of(shape, key)
    return put_on_top(shape, key), cost


def touch_all(shape, keys):
    """Touches the keys of a list; returns the pair of the last shape and the list of the costs."""
    last = shape
    costs = []
    for key in keys:
        last, cost = touch(last, key)
        costs.append(cost)
    return last, costs


def insert_key(shape, key):
    """Inserts the key as a leaf and touches it; returns the pair of the shape and the cost."""
    if not is_key(key):
        raise BadKey(key)
    if key in shape:
        raise DuplicateKey(key)
    if len(shape) >= MAX_KEYS:
        raise TooManyKeys(MAX_KEYS)
    # The new leaf lies below all keys that the search visits, and below no other one.
    return put_on_top(shape, key), len(search_path(shape, key))


def remove_key(shape, key):
    """Touches the key and the next smaller one, and removes the key; returns the shape and the sum of the costs."""
    last, total = touch(shape, key)
    smaller = restrict(shape, high=key)
    if smaller:
        last, cost = touch(last, max(smaller))
        total += cost
    # Without a left child, the key stands directly before its right subtree.
    return tuple([other for other in last if other != key]), total


def cut_at(shape, key):
    """Touches the key and takes off its right subtree; returns the remaining shape, the right subtree and the cost."""
    last, cost = touch(shape, key)
    left, right = parts_of(last)
    return (key,) + left, right, cost


def join_trees(one, other):
    """Joins two trees at the greatest key of the first one; returns the pair of the shape and the cost."""
    if not one or not other:
        return one + other, 0
    greatest = max(one)
    if greatest >= min(other):
        raise Overlap(greatest)
    if len(one) + len(other) > MAX_KEYS:
        raise TooManyKeys(MAX_KEYS)
    # At the root, the greatest key has no right subtree, so the other shape follows the whole first one.
    last, cost = touch(one, greatest)
    return last + other, cost
