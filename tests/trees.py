"""Search trees as nested tuples (key, left, right), and None for the empty tree.

The tests compare the package, which works with shapes, with what these trees say.
"""

import itertools
import random


def all_trees(keys):
    """All search trees over an ascending list of keys."""
    if not keys:
        return [None]
    return [
        (root, left, right)
        for at, root in enumerate(keys)
        for left in all_trees(keys[:at])
        for right in all_trees(keys[at + 1:])
    ]


def trees_over_subsets(keys):
    """All search trees over all subsets of an ascending list of keys."""
    return [
        tree
        for size in range(len(keys) + 1)
        for chosen in itertools.combinations(keys, size)
        for tree in all_trees(list(chosen))
    ]


def random_tree(rng, keys):
    """Some search tree over an ascending list of keys."""
    if not keys:
        return None
    at = rng.randrange(len(keys))
    return (keys[at], random_tree(rng, keys[:at]), random_tree(rng, keys[at + 1:]))


def sample_trees():
    """All trees over up to five keys, trees with only one spine, and some trees with up to 40 keys."""
    found = [tree for size in range(6) for tree in all_trees(list(range(-3, 7, 2))[:size])]
    for keys in (list(range(1, 41)), list(range(-10 ** 9, -10 ** 9 + 40))):
        chain = opposite = None
        for key in keys:
            chain = (key, chain, None)
        for key in reversed(keys):
            opposite = (key, None, opposite)
        found.extend([chain, opposite])
    rng = random.Random(20261118)
    for size in (6, 7, 9, 13, 20, 39, 40):
        for spread in (size, 100, 10 ** 9):
            keys = sorted(rng.sample(range(-spread, spread + 1), size))
            found.append(random_tree(rng, keys))
    return found


def preorder(tree):
    """The shape of a tree."""
    if tree is None:
        return ()
    key, left, right = tree
    return (key,) + preorder(left) + preorder(right)


def insert_leaf(tree, key):
    """The tree with a new key as a leaf."""
    if tree is None:
        return (key, None, None)
    root, left, right = tree
    if key < root:
        return (root, insert_leaf(left, key), right)
    return (root, left, insert_leaf(right, key))


def places(tree, above=()):
    """A list of pairs (subtree, tuple of the keys above it) for all keys of a tree, in preorder."""
    if tree is None:
        return []
    key, left, right = tree
    below = above + (key,)
    return [(tree, above)] + places(left, below) + places(right, below)


def key_of(tree):
    """The key at the top of a tree, or None."""
    return None if tree is None else tree[0]


def spine(tree, side):
    """The keys of the left spine (side 1) or of the right spine (side 2)."""
    found = []
    while tree is not None:
        found.append(tree[0])
        tree = tree[side]
    return found


def mirrored(tree):
    """The tree with left and right exchanged and all keys negated."""
    if tree is None:
        return None
    key, left, right = tree
    return (-key, mirrored(right), mirrored(left))


def rotated_up(tree, side):
    """The tree after a rotation of the left child (side 1) or of the right child (side 2) of its top."""
    if side == 1:
        parent, (key, inner, middle), outer = tree
        return (key, inner, (parent, middle, outer))
    parent, outer, (key, middle, inner) = tree
    return (key, (parent, outer, middle), inner)


def side_of(tree, key):
    """The side of the top of a tree, 1 or 2, on which another key lies."""
    return 1 if key < tree[0] else 2


def with_part(tree, side, part):
    """The tree with another left or right subtree."""
    return (tree[0], part, tree[2]) if side == 1 else (tree[0], tree[1], part)


def rotated(tree, key):
    """The tree after one rotation of a key with its parent; the key is in the tree and not at its top."""
    side = side_of(tree, key)
    if tree[side][0] == key:
        return rotated_up(tree, side)
    return with_part(tree, side, rotated(tree[side], key))


def touched(tree, key):
    """The pair of the tree after a touch, rotation by rotation, and the number of rotations."""
    cost = 0
    while tree[0] != key:
        tree = rotated(tree, key)
        cost += 1
    return tree, cost


def touched_all(tree, keys):
    """The pair of the tree after touches and the list of their costs."""
    costs = []
    for key in keys:
        tree, cost = touched(tree, key)
        costs.append(cost)
    return tree, costs


def keys_of(tree):
    """The ascending list of the keys of a tree."""
    return sorted(preorder(tree))


def pairs_above(tree):
    """The set of all pairs (key, other) such that the key is above the other one."""
    return {(key, node[0]) for node, above in places(tree) for key in above}


def beside(keys):
    """The keys, and all integers that lie directly beside one of them."""
    return sorted({key + step for key in keys for step in (-1, 0, 1)} | {0})
