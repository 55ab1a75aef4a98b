"""What can be read off a shape: paths, depths, subtrees, restrictions and spines."""

from touchtrees.errors import NoKey


def root_of(shape):
    """Returns the root, or None for the empty shape."""
    return shape[0] if shape else None


def restrict(shape, *, low=None, high=None):
    """Returns the restriction to the keys strictly between low and high; None is no bound."""
    return tuple([key for key in shape if (low is None or low < key) and (high is None or key < high)])


def parts_of(shape):
    """Returns the pair of the left and the right subtree of the root, as shapes."""
    if not shape:
        return (), ()
    root = shape[0]
    return restrict(shape, high=root), restrict(shape, low=root)


def search_path(shape, key):
    """Returns the list of the keys that a search for a key visits, from the root on."""
    path = []
    rest = shape
    while rest:
        root = rest[0]
        path.append(root)
        if key == root:
            break
        left, right = parts_of(rest)
        rest = left if key < root else right
    return path


def require_key(shape, key):
    """Raises NoKey if the shape does not have the key."""
    if key not in shape:
        raise NoKey(key)


def path_to(shape, key):
    """Returns the list of the keys from the root to the key."""
    require_key(shape, key)
    return search_path(shape, key)


def depth_of(shape, key):
    """Returns the depth of the key."""
    return len(path_to(shape, key)) - 1


def all_depths(shape):
    """Returns a dict from each key to its depth."""
    return {key: depth_of(shape, key) for key in shape}


def parent_of(shape, key):
    """Returns the parent of the key, or None for the root."""
    path = path_to(shape, key)
    return path[-2] if len(path) > 1 else None


def children_of(shape, key):
    """Returns the pair of the left and the right child of the key, each one a key or None."""
    left, right = parts_of(subtree_at(shape, key))
    return root_of(left), root_of(right)


def nearest_on(path, key):
    """Returns the pair of the nearest smaller and the nearest greater key in a list, or None for each."""
    low = max([above for above in path if above < key], default=None)
    high = min([above for above in path if above > key], default=None)
    return low, high


def bounds_of(shape, key):
    """Returns the pair of the nearest smaller and the nearest greater key above the key, or None for each."""
    return nearest_on(path_to(shape, key), key)


def subtree_at(shape, key):
    """Returns the subtree of the key, as a shape."""
    # Every key between the bounds lies below the key: else a key above both would be a nearer bound.
    low, high = bounds_of(shape, key)
    return restrict(shape, low=low, high=high)


def is_above(shape, one, other):
    """Returns whether the key one is above the key other."""
    require_key(shape, one)
    require_key(shape, other)
    return one != other and one in search_path(shape, other)


def parting_keys(one, other):
    """Returns two keys for two different shapes over the same keys; each is above the other one in its own shape."""
    # Before the preorders part, the trees are the same, so that both keys are at the top of the same keys there.
    return [(key, rival) for key, rival in zip(one, other) if key != rival][0]


def spine_lengths(shape):
    """Returns the pair of the numbers of keys on the left and on the right spine."""
    if not shape:
        return 0, 0
    # The left spine ends at the least key, and the right spine at the greatest one.
    return len(search_path(shape, min(shape))), len(search_path(shape, max(shape)))


def mirror(shape):
    """Returns the shape with left and right exchanged everywhere and all keys negated."""
    if not shape:
        return ()
    left, right = parts_of(shape)
    return (-shape[0],) + mirror(right) + mirror(left)
