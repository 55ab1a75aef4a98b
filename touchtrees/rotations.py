"""Rotations of a key with its parent, and what all rotations of a touch do together."""

from touchtrees.errors import AtRoot
from touchtrees.structure import parent_of, restrict, root_of, subtree_at


def put_on_top(shape, key):
    """Returns the shape with the key above all other keys; the shape may or may not have the key before."""
    # Of two other keys on the same side, one is above the other as before, so each side is a restriction.
    return (key,) + restrict(shape, high=key) + restrict(shape, low=key)


def rotate(shape, key):
    """Returns the shape after one rotation of the key with its parent."""
    parent = parent_of(shape, key)
    if parent is None:
        raise AtRoot(key)
    old = subtree_at(shape, parent)
    start = shape.index(parent)
    # In the subtree of its parent, one rotation is all that the key needs to come to the top.
    return shape[:start] + put_on_top(old, key) + shape[start + len(old):]


def rotation_steps(shape, key):
    """Returns the list of the given shape and of the shape after each rotation while the key is touched."""
    steps = [shape]
    while root_of(steps[-1]) != key:
        steps.append(rotate(steps[-1], key))
    return steps
