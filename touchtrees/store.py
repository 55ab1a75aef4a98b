"""Stores of named trees: commands, steps that can be undone and redone, watches and clones."""

from touchtrees.distances import needed_keys
from touchtrees.errors import (
    BadCommand, BadName, EmptyHistory, NameTaken, NoTree, NoWatch, SameName, TooManyTrees, TooManyWatches)
from touchtrees.histories import run_history
from touchtrees.shapes import build
from touchtrees.structure import depth_of
from touchtrees.touching import cut_at, insert_key, join_trees, remove_key, touch

MAX_TREES = 6
MAX_WATCHES = 6
MAX_LETTERS = 6


def is_name(text):
    """Returns whether a string is a name."""
    return 1 <= len(text) <= MAX_LETTERS and all(["a" <= letter <= "z" for letter in text])


def shape_in(trees, name):
    """Returns the shape of a tree in a dict of trees; raises NoTree."""
    if name not in trees:
        raise NoTree(name)
    return trees[name]


def two_shapes_in(trees, name, other):
    """Returns the pair of the shapes of two trees; raises NoTree for the first, then for the second one."""
    return shape_in(trees, name), shape_in(trees, other)


def two_trees_in(trees, name, other):
    """Returns the pair of the shapes of two different trees; raises NoTree, then SameName."""
    both = two_shapes_in(trees, name, other)
    if name == other:
        raise SameName(name)
    return both


def require_room(trees, name):
    """Raises BadName, NameTaken or TooManyTrees if no tree can be added with this name."""
    if not is_name(name):
        raise BadName(name)
    if name in trees:
        raise NameTaken(name)
    if len(trees) >= MAX_TREES:
        raise TooManyTrees(MAX_TREES)


# Each of the following functions changes a dict of trees as a command says, and returns the cost. If it raises an
# error, the dict is as before.


def do_new(trees, name, order):
    """Adds the tree that is built from a list of keys."""
    require_room(trees, name)
    trees[name] = build(order)
    return 0


def do_drop(trees, name):
    """Removes a tree."""
    shape_in(trees, name)
    del trees[name]
    return 0


def do_touch(trees, name, key):
    """Touches a key of a tree."""
    trees[name], cost = touch(shape_in(trees, name), key)
    return cost


def do_insert(trees, name, key):
    """Inserts a key into a tree."""
    trees[name], cost = insert_key(shape_in(trees, name), key)
    return cost


def do_remove(trees, name, key):
    """Removes a key from a tree."""
    trees[name], cost = remove_key(shape_in(trees, name), key)
    return cost


def do_run(trees, name, history):
    """Runs a history."""
    trees[name], cost = run_history(shape_in(trees, name), history)
    return cost


def do_cut(trees, name, key, other):
    """Cuts a tree at a key; the right part gets the other name."""
    shape = shape_in(trees, name)
    require_room(trees, other)
    trees[name], trees[other], cost = cut_at(shape, key)
    return cost


def do_join(trees, name, other):
    """Joins two trees; the result has the first name."""
    one, two = two_trees_in(trees, name, other)
    trees[name], cost = join_trees(one, two)
    del trees[other]
    return cost


def do_copy(trees, name, other):
    """Adds a copy of a tree."""
    shape = shape_in(trees, name)
    require_room(trees, other)
    trees[other] = shape
    return 0


def do_swap(trees, name, other):
    """Exchanges the names of two trees."""
    trees[other], trees[name] = two_trees_in(trees, name, other)
    return 0


ACTIONS = {
    "new": do_new, "drop": do_drop, "touch": do_touch, "insert": do_insert, "remove": do_remove, "run": do_run,
    "cut": do_cut, "join": do_join, "copy": do_copy, "swap": do_swap}
LENGTHS = {
    "new": 3, "drop": 2, "touch": 3, "insert": 3, "remove": 3, "run": 3, "cut": 4, "join": 3, "copy": 3, "swap": 3}


def check_command(command):
    """Raises BadCommand if a tuple is no command."""
    if not command:
        raise BadCommand(None)
    if LENGTHS.get(command[0]) != len(command):
        raise BadCommand(command[0])


def do_command(trees, command):
    """Changes a dict of trees as a checked command says, and returns its cost."""
    action = ACTIONS[command[0]]
    rest = command[1:]
    return action(trees, *rest)


def keys_in(trees):
    """Returns the number of keys of all trees together."""
    return sum([len(shape) for shape in trees.values()])


class Store:
    """Trees with names. The dicts of trees are never changed, so that steps and clones can share them."""

    def __init__(self):
        self.trees = {}
        self.spent = 0
        # The trees and the total cost before each step that can be undone, and after each one that can be redone.
        self.past = []
        self.future = []
        self.watches = {}
        self.told = {}
        self.last_number = 0

    def __eq__(self, other):
        return isinstance(other, Store) and self.trees == other.trees

    def __len__(self):
        return len(self.trees)

    def __repr__(self):
        return f"Store({len(self.trees)} trees, {keys_in(self.trees)} keys)"

    def apply(self, command):
        """Applies one command as one step, and returns its cost."""
        return self.apply_all([command])[0]

    def apply_all(self, commands):
        """Applies a list of commands as one step, all or none, and returns the list of their costs."""
        for command in commands:
            check_command(command)
        trees = dict(self.trees)
        costs = []
        for command in commands:
            costs.append(do_command(trees, command))
        self.past.append((self.trees, self.spent))
        self.future = []
        self.trees = trees
        self.spent += sum(costs)
        return costs

    def undo(self):
        """Undoes the last step."""
        if not self.past:
            raise EmptyHistory()
        self.future.append((self.trees, self.spent))
        self.trees, self.spent = self.past.pop()

    def redo(self):
        """Redoes the step that was undone last."""
        if not self.future:
            raise EmptyHistory()
        self.past.append((self.trees, self.spent))
        self.trees, self.spent = self.future.pop()

    def names(self):
        """Returns the ascending list of the names."""
        return sorted(self.trees)

    def shape_of(self, name):
        """Returns the shape of a tree."""
        return shape_in(self.trees, name)

    def total_cost(self):
        """Returns the sum of the costs of all steps that are not undone."""
        return self.spent

    def steps(self):
        """Returns the pair of the numbers of steps that can be undone and redone."""
        return len(self.past), len(self.future)

    def distance(self, name, other):
        """Returns the number of needed keys on the way from one tree to another."""
        one, two = two_shapes_in(self.trees, name, other)
        return len(needed_keys(one, two))

    def current_depth(self, name, key):
        """Returns the depth of a key in a tree, or None if there is no such tree or key."""
        shape = self.trees.get(name, ())
        return depth_of(shape, key) if key in shape else None

    def watch(self, name, key):
        """Adds a watch, and returns its number."""
        if len(self.watches) >= MAX_WATCHES:
            raise TooManyWatches(MAX_WATCHES)
        self.last_number += 1
        self.watches[self.last_number] = (name, key)
        self.told[self.last_number] = self.current_depth(name, key)
        return self.last_number

    def unwatch(self, number):
        """Removes a watch."""
        if number not in self.watches:
            raise NoWatch(number)
        del self.watches[number], self.told[number]

    def watched(self):
        """Returns the list of tuples (number, name, key, value) of all watches, ascending."""
        return [
            (number, name, key, self.current_depth(name, key)) for number, (name, key) in self.watches.items()]

    def news(self):
        """Returns the list of pairs (number, value) of the watches whose value is not the one told last."""
        fresh = [(number, value) for number, name, key, value in self.watched() if value != self.told[number]]
        for number, value in fresh:
            self.told[number] = value
        return fresh

    def clone(self):
        """Returns an independent store with the same trees, steps, watches and values told last."""
        other = Store()
        other.trees = self.trees
        other.spent = self.spent
        other.past = list(self.past)
        other.future = list(self.future)
        other.watches = dict(self.watches)
        other.told = dict(self.told)
        other.last_number = self.last_number
        return other


def store_of(trees):
    """Returns a store with the trees of a dict, without steps, total cost and watches."""
    store = Store()
    store.trees = dict(trees)
    return store
