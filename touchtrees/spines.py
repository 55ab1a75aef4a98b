"""Shapes that are put together at a key, and what their spine lengths say of the ways to do so."""

from touchtrees.counts import binomial, count_by_spines
from touchtrees.shapes import grow
from touchtrees.structure import search_path


def sample_shape(keys, left, right):
    """Returns a shape over an ascending list with so many keys on its spines; there must be one."""
    # All keys that are not on a spine go below the last key of one spine, which is not the root.
    if left == 1:
        return grow(keys[:right - 1] + [keys[-1]] + keys)
    at = len(keys) - right
    return grow(keys[at:] + keys[at - left + 2:at][::-1] + keys)


def free_table(keys):
    """Returns a dict from each pair of spine lengths of shapes over a list to their number and one of them."""
    table = {}
    many = len(keys)
    for left in range(many + 1):
        for right in range(many + 1):
            number = count_by_spines(many, left, right)
            if number > 0:
                table[(left, right)] = (number, sample_shape(keys, left, right))
    return table


def paths_through(smaller, greater, low, high):
    """Returns the triples of joined_spines for so many smaller and so many greater keys above the key."""
    left, right = smaller[0], greater[1]
    if low == 0 or high == 0:
        # The key ends the spine on the side on which no key is above it.
        pair = (left + high + 1 if low == 0 else left, right + low + 1 if high == 0 else right)
        return [(pair, 1, "<" * low + ">" * high)]
    found = []
    # As many keys as begin the path on one side lengthen the spine of the other side's tree.
    for first in range(1, low + 1):
        path = "<" * first + ">" + "<" * (low - first) + ">" * (high - 1)
        found.append(((left, right + first), binomial(low - first + high - 1, high - 1), path))
    for first in range(1, high + 1):
        path = ">" * first + "<" + ">" * (high - first) + "<" * (low - 1)
        found.append(((left + first, right), binomial(high - first + low - 1, low - 1), path))
    return found


def joined_spines(smaller, greater, depth):
    """Returns triples (pair, number, path) for two shapes, given by their spine lengths, and a key between them.

    Put together so that the key has this depth, they have the pair of spine lengths in so many ways. The path is
    the one to the key in one of these ways: a sign for each key above it, < for a smaller one, > for a greater one.
    """
    found = []
    for low in range(max(0, depth - greater[0]), min(smaller[1], depth) + 1):
        found.extend(paths_through(smaller, greater, low, depth - low))
    return found


def put_together(smaller, key, greater, path):
    """Returns the shape with this path to the key, and with these restrictions to both of its sides."""
    # A search for the key goes down the right spine of the smaller keys and the left spine of the greater ones.
    spines = {"<": search_path(smaller, key), ">": search_path(greater, key)}
    above = [spines[side][path[:at].count(side)] for at, side in enumerate(path)]
    return grow(above + [key] + list(smaller) + list(greater))


def joined_table(smaller, key, greater, depth):
    """Returns the table, like free_table's, of the shapes in which the key has this depth, given both sides' tables."""
    table = {}
    for low_pair, (low_number, low_shape) in smaller.items():
        for high_pair, (high_number, high_shape) in greater.items():
            for pair, ways, path in joined_spines(low_pair, high_pair, depth):
                if pair in table:
                    number, shape = table[pair]
                else:
                    number, shape = 0, put_together(low_shape, key, high_shape, path)
                table[pair] = (number + ways * low_number * high_number, shape)
    return table
