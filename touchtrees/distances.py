"""The way from one shape to another: needed keys, shortest lists of touches and certificates."""

from touchtrees.counts import count_orders
from touchtrees.errors import KeysDiffer
from touchtrees.structure import bounds_of, is_above, parting_keys, restrict, subtree_at


def require_same_keys(one, other):
    """Raises KeysDiffer with the least key that only one of the shapes has."""
    lonely = sorted(set(one) ^ set(other))
    if lonely:
        raise KeysDiffer(lonely[0])


def both_parts(one, other, key):
    """Returns the restriction of one to the keys of the subtree of the key in other, and this subtree."""
    low, high = bounds_of(other, key)
    return restrict(one, low=low, high=high), restrict(other, low=low, high=high)


def is_needed(one, other, key):
    """Returns whether a key is needed on the way from one to other."""
    before, after = both_parts(one, other, key)
    return before != after


def needed_top(one, other):
    """Returns the shape of the needed keys: a key above a needed one is needed too."""
    require_same_keys(one, other)
    return tuple([key for key in other if is_needed(one, other, key)])


def needed_keys(one, other):
    """Returns the ascending list of the needed keys on the way from one to other."""
    return sorted(needed_top(one, other))


def shortest_history(one, other):
    """Returns a shortest list of touches that leads from one to other."""
    # In preorder no key comes after one that is below it, and backwards none comes before it.
    return list(needed_top(one, other)[::-1])


def count_shortest(one, other):
    """Returns the number of shortest lists of touches that lead from one to other."""
    # Read backwards, these lists are the orders in which the needed keys can be inserted as leaves.
    return count_orders(needed_top(one, other))


def needed_triple(one, other, key):
    """Returns a triple (key, above, below) for a needed key."""
    before, after = both_parts(one, other, key)
    above, below = parting_keys(after, before)
    return key, above, below


def needed_paper(one, other):
    """Returns a list of triples (key, above, below) that show that the needed keys are needed."""
    return [needed_triple(one, other, key) for key in needed_keys(one, other)]


def triple_holds(one, other, key, above, below):
    """Returns whether above is above below in the subtree of the key in other, but not in one."""
    if key not in other:
        return False
    part = subtree_at(other, key)
    if above not in part or below not in part:
        return False
    return is_above(part, above, below) and not is_above(one, above, below)


def paper_holds(one, other, paper):
    """Returns whether each element of a list is a triple as in needed_paper."""
    require_same_keys(one, other)
    return all([triple_holds(one, other, key, above, below) for key, above, below in paper])
