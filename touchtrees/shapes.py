"""Keys, and the shapes of search trees: the tuples of their keys in preorder."""

from touchtrees.errors import BadKey, BadShape, DuplicateKey, TooManyKeys

KEY_LIMIT = 10 ** 9
MAX_KEYS = 40


def is_key(number):
    """Returns whether an integer is a key."""
    return -KEY_LIMIT <= number <= KEY_LIMIT


def check_keys(numbers):
    """Raises TooManyKeys, or BadKey with the first integer that is no key."""
    if len(numbers) > MAX_KEYS:
        raise TooManyKeys(MAX_KEYS)
    for number in numbers:
        if not is_key(number):
            raise BadKey(number)


def first_misplaced(keys):
    """Returns the index of the first key that cannot follow the keys before it, or None."""
    # Keys in whose left subtree the next key may still be put, the least one last.
    waiting = []
    # The greatest key whose left subtree is closed: all later keys belong to its right.
    low = None
    for pos, key in enumerate(keys):
        # An equal key is closed too, so that the bound refuses its second occurrence.
        while waiting and waiting[-1] <= key:
            low = waiting.pop()
        if low is not None and key <= low:
            return pos
        waiting.append(key)
    return None


def check_shape(shape):
    """Returns None if a tuple of integers is a shape; raises TooManyKeys, BadKey or BadShape otherwise."""
    check_keys(shape)
    pos = first_misplaced(shape)
    if pos is not None:
        raise BadShape(pos)


def is_shape(shape):
    """Returns whether a tuple of integers is a shape."""
    try:
        check_shape(shape)
    except (TooManyKeys, BadKey, BadShape):
        return False
    return True


def is_shape_over(shape, keys):
    """Returns whether a tuple of integers is a shape over an ascending list of keys."""
    return sorted(shape) == list(keys) and first_misplaced(shape) is None


def grow(keys):
    """Returns the shape that keys form if each one is inserted as a leaf; a key that is there is passed over."""
    if not keys:
        return ()
    # The first key stays the root, and each side grows as if the other one were not there.
    root = keys[0]
    smaller = [key for key in keys if key < root]
    greater = [key for key in keys if key > root]
    return (root,) + grow(smaller) + grow(greater)


def build(order):
    """Returns the shape that is reached if the keys of a list are inserted as leaves, without touches."""
    check_keys(order)
    for pos, key in enumerate(order):
        if key in order[:pos]:
            raise DuplicateKey(key)
    return grow(order)
