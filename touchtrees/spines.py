"""Shapes that are put together at a key, and what their spine lengths say of the ways to do so."""

from touchtrees.counts import binomial, count_by_spines
from touchtrees.shapes import grow
from touchtrees.structure import search_path


def sample_shape(keys, left, right):
    """Returns a shape over an ascending list with so many keys on its spines; there must be one."""
    # All keys that are not on a spine go below the last key of one spine, which is not the root.
    if left == 1:
        return grow(keys[:right - 1] + [keys[-1]] + keys)
    at = len(keys) - right
    return grow(keys[at:] + keys[at - left + 2:at][::-1] + keys)


def spine_pairs(size):
    """Returns the ascending list of the pairs of spine lengths that shapes over so many keys have."""
    found = []
    for left in range(size + 1):
        found.extend([(left, right) for right in range(size + 1) if count_by_spines(size, left, right) > 0])
    return found


def free_table(keys):
    """Returns a dict from each pair of spine lengths of shapes over a list to their number and one of them."""
    table = {}
    for left, right in spine_pairs(len(keys)):
        table[(left, right)] = (count_by_spines(len(keys), left, right), sample_shape(keys, left, right))
    return table


def paths_through(smaller, greater, low, high):
    """Returns the triples of joined_spines for so many smaller and so many greater keys above the key."""
    left, right = smaller[0], greater[1]
    if low == 0 or high == 0:
        # The key ends the spine on the side on which no key is above it.
        pair = (left + high + 1 if low == 0 else left, right + low + 1 if high == 0 else right)
        return [(pair, 1, "<" * low + ">" * high)]
    found = []
    # As many keys as begin the path on one side lengthen the spine of the other side's tree.
    for first in range(1, low + 1):
        path = "<" * first + ">" + "<" * (low - first) + ">" * (high - 1)
        found.append(((left, right + first), binomial(low - first + high - 1, high - 1), path))
    for first in range(1, high + 1):
        path = ">" * first + "<" + ">" * (high - first) + "<" * (low - 1)
        found.append(((left + first, right), binomial(high - first + low - 1, low - 1), path))
    return found


def joined_spines(smaller, greater, depth):
    """Returns triples (pair, number, path) for two shapes, given by their spine lengths, and a key between them.

    Put together so that the key has this depth, they have the pair of spine lengths in so many ways. The path is
    the one to the key in one of these ways: a sign for each key above it, < for a smaller one, > for a greater one.
    """
    found = []
    for low in range(max(0, depth - greater[0]), min(smaller[1], depth) + 1):
        found.extend(paths_through(smaller, greater, low, depth - low))
    return found


def joined_pairs(smaller, greater, depth):
    """Returns the list of the pairs that joined_spines has for the same arguments, each one once."""
    left, right = smaller[0], greater[1]
    # The least and the greatest number of smaller keys above the key.
    least = max(0, depth - greater[0])
    most = min(smaller[1], depth)
    if least > most:
        return []
    if depth == 0:
        return [(left + 1, right + 1)]
    found = []
    if least == 0:
        found.append((left + depth + 1, right))
    if most == depth:
        found.append((left, right + depth + 1))
    # Keys of both sides are above the key here. Most keys of one side allow every shorter beginning of the path.
    least = max(least, 1)
    most = min(most, depth - 1)
    if least <= most:
        found.extend([(left, right + first) for first in range(1, most + 1)])
        found.extend([(left + first, right) for first in range(1, depth - least + 1)])
    return found


def put_together(smaller, key, greater, path):
    """Returns the shape with this path to the key, and with these restrictions to both of its sides."""
    # A search for the key goes down the right spine of the smaller keys and the left spine of the greater ones.
    spines = {"<": search_path(smaller, key), ">": search_path(greater, key)}
    above = [spines[side][path[:at].count(side)] for at, side in enumerate(path)]
    return grow(above + [key] + list(smaller) + list(greater))


def joined_table(smaller, key, greater, depth):
    """Returns the table, like free_table's, of the shapes in which the key has this depth, given both sides' tables."""
    table = {}
    for low_pair, (low_number, low_shape) in smaller.items():
        for high_pair, (high_number, high_shape) in greater.items():
            for pair, ways, path in joined_spines(low_pair, high_pair, depth):
                if pair in table:
                    number, shape = table[pair]
                else:
                    number, shape = 0, put_together(low_shape, key, high_shape, path)
                table[pair] = (number + ways * low_number * high_number, shape)
    return table
