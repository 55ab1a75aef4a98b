"""What histories do to all shapes over a list of keys: spared keys, cores and differences."""

from touchtrees.histories import last_touches
from touchtrees.rotations import put_on_top
from touchtrees.shapes import grow, is_shape_over
from touchtrees.structure import children_of, is_above, parting_keys, require_key


def recent_touches(history, keys):
    """Returns the touched keys, the last touched one first; raises NoKey with the least one outside of the list."""
    recent = last_touches(history)
    for key in sorted(recent):
        require_key(keys, key)
    return recent


def spared_among(recent, keys):
    """Returns the ascending list of the spared keys, given the order of the last touches."""
    top = grow(recent)
    spared = []
    for at, key in enumerate(keys):
        # The key itself and its neighbours, where they exist.
        near = keys[max(at - 1, 0):at + 2]
        if all([other in recent for other in near]) and children_of(top, key) == (None, None):
            spared.append(key)
    return spared


def spared_keys(history, keys):
    """Returns the ascending list of the spared keys of the history."""
    return spared_among(recent_touches(history, keys), keys)


def core_shape(history, keys):
    """Returns the core of the history."""
    recent = recent_touches(history, keys)
    spared = spared_among(recent, keys)
    return tuple([key for key in grow(recent) if key not in spared])


def shape_after(shape, recent):
    """Returns the shape after touches, given the order of the last ones."""
    # A key is above those that are inserted later, as long as none between them was inserted earlier.
    return grow(recent + list(shape))


def effect_difference(one, other, keys):
    """Returns None if two histories have the same effect, and otherwise a triple that shows a difference."""
    ones = recent_touches(one, keys)
    others = recent_touches(other, keys)
    # If two histories treat two keys differently, at most one of them leaves the order of these keys to the shape,
    # and it then shows the difference if the right one of the keys is the root.
    for root in keys:
        shape = put_on_top(tuple(keys), root)
        after_one = shape_after(shape, ones)
        after_other = shape_after(shape, others)
        if after_one != after_other:
            first, second = parting_keys(after_one, after_other)
            return shape, first, second
    return None


def difference_holds(one, other, keys, paper):
    """Returns whether a triple (shape, first, second) shows a difference of two histories."""
    ones = recent_touches(one, keys)
    others = recent_touches(other, keys)
    shape, first, second = paper
    if not is_shape_over(shape, keys) or first not in keys or second not in keys:
        return False
    return is_above(shape_after(shape, ones), first, second) != is_above(shape_after(shape, others), first, second)
