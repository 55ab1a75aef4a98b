"""Numbers of shapes and of orders, and lists of shapes."""

from touchtrees.errors import BadSize, TooManyKeys
from touchtrees.structure import parts_of

MAX_SIZE = 60
MAX_LISTED = 8


def binomial(size, chosen):
    """Returns the number of subsets with so many members of a set with so many members."""
    if chosen < 0 or chosen > size:
        return 0
    number = 1
    for step in range(chosen):
        # Before and after each step this is a binomial coefficient itself, so that nothing is lost.
        number = number * (size - step) // (step + 1)
    return number


def check_size(size):
    """Raises BadSize if shapes of this size are not counted."""
    if size < 0 or size > MAX_SIZE:
        raise BadSize(size)


def count_trees(size):
    """Returns the number of shapes over an ascending list of so many keys."""
    check_size(size)
    return binomial(2 * size, size) // (size + 1)


def count_by_spines(size, left, right):
    """Returns the number of shapes over so many keys with so many keys on the left and on the right spine."""
    check_size(size)
    if size == 0:
        return 1 if left == 0 and right == 0 else 0
    # Each key of a spine but the root has one free subtree beside the spine, and the rest is spread over these.
    free = left + right - 2
    rest = size - free - 1
    if left < 1 or right < 1 or rest < 0:
        return 0
    if free == 0:
        return 1 if rest == 0 else 0
    return free * binomial(2 * rest + free, rest) // (2 * rest + free)


def count_orders(shape):
    """Returns the number of orders of the keys of the shape from which build returns this shape."""
    if not shape:
        return 1
    left, right = parts_of(shape)
    # The root comes first, and the orders of both sides are mixed in any way.
    return binomial(len(left) + len(right), len(left)) * count_orders(left) * count_orders(right)


def shapes_over(keys):
    """Returns the ascending list of all shapes over an ascending list of keys, however many there are."""
    if not keys:
        return [()]
    found = []
    for at, root in enumerate(keys):
        rights = shapes_over(keys[at + 1:])
        for left in shapes_over(keys[:at]):
            found.extend([(root,) + left + right for right in rights])
    return found


def all_shapes(keys):
    """Returns the ascending list of all shapes over an ascending list of different keys."""
    if len(keys) > MAX_LISTED:
        raise TooManyKeys(MAX_LISTED)
    return shapes_over(keys)
