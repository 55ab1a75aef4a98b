"""What the commands of a store do, said with nested trees and dicts; errors are pairs of a tag and a field."""

import samples
import trees

LETTERS = set("abcdefghijklmnopqrstuvwxyz")
LENGTHS = {
    "new": 3, "drop": 2, "touch": 3, "insert": 3, "remove": 3, "run": 3, "cut": 4, "join": 3, "copy": 3, "swap": 3}


class Refused(Exception):

    def __init__(self, tag, worth):
        Exception.__init__(self, tag, worth)
        self.told = (tag, worth)


def refuse_if(holds, tag, worth):
    if holds:
        raise Refused(tag, worth)


def need_tree(forest, name):
    refuse_if(name not in forest, "NoTree", name)


def need_room(forest, name):
    refuse_if(not 1 <= len(name) <= 6 or not set(name) <= LETTERS, "BadName", name)
    refuse_if(name in forest, "NameTaken", name)
    refuse_if(len(forest) == 6, "TooManyTrees", 6)


def need_key(tree, key):
    refuse_if(key not in trees.keys_of(tree), "NoKey", key)


def new(forest, name, order):
    need_room(forest, name)
    refuse_if(len(order) > 40, "TooManyKeys", 40)
    for key in order:
        refuse_if(abs(key) > 10 ** 9, "BadKey", key)
    tree = None
    for at, key in enumerate(order):
        refuse_if(key in order[:at], "DuplicateKey", key)
        tree = trees.insert_leaf(tree, key)
    return {**forest, name: tree}, 0


def drop(forest, name):
    need_tree(forest, name)
    return {other: tree for other, tree in forest.items() if other != name}, 0


def touch(forest, name, key):
    need_tree(forest, name)
    need_key(forest[name], key)
    tree, cost = trees.touched(forest[name], key)
    return {**forest, name: tree}, cost


def insert(forest, name, key):
    need_tree(forest, name)
    keys = trees.keys_of(forest[name])
    refuse_if(abs(key) > 10 ** 9, "BadKey", key)
    refuse_if(key in keys, "DuplicateKey", key)
    refuse_if(len(keys) >= 40, "TooManyKeys", 40)
    tree, cost = trees.touched(trees.insert_leaf(forest[name], key), key)
    return {**forest, name: tree}, cost


def without(tree, key):
    """The tree without a key that has no left child."""
    if tree[0] == key:
        assert tree[1] is None
        return tree[2]
    side = trees.side_of(tree, key)
    return trees.with_part(tree, side, without(tree[side], key))


def remove(forest, name, key):
    forest, cost = touch(forest, name, key)
    smaller = [other for other in trees.keys_of(forest[name]) if other < key]
    if smaller:
        forest, more = touch(forest, name, max(smaller))
        cost += more
    return {**forest, name: without(forest[name], key)}, cost


def run(forest, name, history):
    """The history is right, and its counts are small."""
    need_tree(forest, name)
    total = 0
    for key in samples.written_out(history):
        forest, cost = touch(forest, name, key)
        total += cost
    return forest, total


def cut(forest, name, key, other):
    need_tree(forest, name)
    need_room(forest, other)
    forest, cost = touch(forest, name, key)
    top, left, right = forest[name]
    return {**forest, name: (top, left, None), other: right}, cost


def join(forest, name, other):
    need_tree(forest, name)
    need_tree(forest, other)
    refuse_if(name == other, "SameName", name)
    one, two = forest[name], forest[other]
    rest = drop(forest, other)[0]
    if one is None or two is None:
        return {**rest, name: two if one is None else one}, 0
    greatest = max(trees.keys_of(one))
    refuse_if(greatest >= min(trees.keys_of(two)), "Overlap", greatest)
    refuse_if(len(trees.keys_of(one)) + len(trees.keys_of(two)) > 40, "TooManyKeys", 40)
    (top, left, right), cost = trees.touched(one, greatest)
    assert right is None
    return {**rest, name: (top, left, two)}, cost


def copy(forest, name, other):
    need_tree(forest, name)
    need_room(forest, other)
    return {**forest, other: forest[name]}, 0


def swap(forest, name, other):
    need_tree(forest, name)
    need_tree(forest, other)
    refuse_if(name == other, "SameName", name)
    return {**forest, name: forest[other], other: forest[name]}, 0


ACTIONS = {
    "new": new, "drop": drop, "touch": touch, "insert": insert, "remove": remove, "run": run, "cut": cut, "join": join,
    "copy": copy, "swap": swap}


def apply_all(forest, commands):
    """The pair of the trees after a batch and the list of the costs."""
    for command in commands:
        refuse_if(not command, "BadCommand", None)
        refuse_if(LENGTHS.get(command[0]) != len(command), "BadCommand", command[0])
    costs = []
    for word, *rest in commands:
        forest, cost = ACTIONS[word](forest, *rest)
        costs.append(cost)
    return forest, costs


def shapes_of(forest):
    """A dict from the names to the shapes."""
    return {name: trees.preorder(tree) for name, tree in forest.items()}


NAMES = ("oak", "elm", "a", "zzzzzz", "ash", "fir", "yew", "pine")
BAD_NAMES = ("", "Oak", "sevenly", "a b", "oak1", "o-k", "\n", "oak\n")


def random_command(rng, forest):
    """Some command, most of them without an error if the trees have few keys."""
    present = sorted(forest) or ["oak"]
    name = rng.choice(present) if rng.random() < 0.92 else rng.choice(NAMES + BAD_NAMES)
    other = rng.choice(NAMES) if rng.random() < 0.9 else rng.choice(present + list(BAD_NAMES))
    keys = trees.keys_of(forest.get(name)) or [5]
    key = rng.choice(keys) if rng.random() < 0.9 else rng.choice((-3, 4, 50, 10 ** 9 + 1))
    # Most commands need trees, so that there should soon be some.
    word = "new" if len(forest) < 4 and rng.random() < 0.4 else rng.choice(list(ACTIONS))
    if word == "new":
        order = rng.sample(range(-20, 20), rng.randrange(7)) + rng.choice(([], [], [], [], [3, 3], [10 ** 10]))
        return rng.choice(((word, other, order), (word, other, tuple(order))))
    if word == "drop":
        return (word, name if rng.random() < 0.5 else rng.choice(NAMES))
    if word == "insert":
        return (word, name, rng.randrange(-30, 30) if rng.random() < 0.9 else key)
    if word == "run":
        return (word, name, samples.random_histories(rng, keys + [min(key, 50)], 1)[0])
    if word == "cut":
        return (word, name, key, other)
    if word == "copy":
        return (word, name, other)
    if word in ("join", "swap"):
        return (word, name, rng.choice(present) if rng.random() < 0.9 else other)
    return (word, name, key)
