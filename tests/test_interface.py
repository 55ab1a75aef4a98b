"""The whole interface: its names, arguments, defaults and constants, and a call by keyword of each part."""

import copy
import importlib
import inspect
import unittest

from touchtrees.console import Console
from touchtrees.documents import parse_store
from touchtrees.observer import Observer
from touchtrees.store import Store

CONSTANTS = {
    "shapes": {"KEY_LIMIT": 10 ** 9, "MAX_KEYS": 40},
    "histories": {"MAX_STEPS": 100, "MAX_NESTING": 4, "COUNT_LIMIT": 10 ** 30, "UNROLL_LIMIT": 1000},
    "counts": {"MAX_SIZE": 60, "MAX_LISTED": 8},
    "observations": {"MAX_LOG_KEYS": 12, "MAX_LOG": 60},
    "weights": {"MAX_WEIGHT": 1000, "MAX_WEIGHTED": 12},
    "store": {"MAX_TREES": 6, "MAX_WATCHES": 6}}
# The parameters of each function and class of a module.
FUNCTIONS = {
    "shapes": {"is_key": "number", "check_shape": "shape", "is_shape": "shape", "build": "order"},
    "structure": {
        "root_of": "shape", "restrict": "shape, *, low=None, high=None", "parts_of": "shape",
        "search_path": "shape, key", "path_to": "shape, key", "depth_of": "shape, key", "all_depths": "shape",
        "parent_of": "shape, key", "children_of": "shape, key", "bounds_of": "shape, key",
        "subtree_at": "shape, key", "is_above": "shape, one, other", "spine_lengths": "shape", "mirror": "shape"},
    "rotations": {"rotate": "shape, key", "rotation_steps": "shape, key"},
    "touching": {
        "touch": "shape, key", "touch_all": "shape, keys", "insert_key": "shape, key", "remove_key": "shape, key",
        "cut_at": "shape, key", "join_trees": "one, other"},
    "histories": {
        "check_history": "history", "count_touches": "history", "last_touches": "history", "touched_keys": "history",
        "top_shape": "history", "unroll": "history, *, limit=1000", "run_history": "shape, history"},
    "effects": {
        "spared_keys": "history, keys", "core_shape": "history, keys", "effect_difference": "one, other, keys",
        "difference_holds": "one, other, keys, paper"},
    "counts": {
        "binomial": "size, chosen", "count_trees": "size", "count_by_spines": "size, left, right",
        "count_orders": "shape", "all_shapes": "keys"},
    "distances": {
        "needed_keys": "one, other", "shortest_history": "one, other", "count_shortest": "one, other",
        "needed_paper": "one, other", "paper_holds": "one, other, paper"},
    "observations": {
        "log_of": "shape, touches", "read_gaps": "keys, log", "count_shapes": "keys, log", "find_shape": "keys, log",
        "next_costs": "keys, log, key"},
    "papers": {"log_paper": "keys, log", "log_paper_holds": "keys, log, paper"},
    "observer": {"Observer": "keys"},
    "weights": {
        "mean_cost": "keys, *, weights=None", "weighted_depth": "shape, *, weights=None",
        "best_fixed": "keys, *, weights=None"},
    "store": {"is_name": "text", "Store": ""},
    "syntax": {"format_history": "history", "parse_history": "text"},
    "documents": {"format_store": "store", "parse_store": "text"},
    "console": {"Console": "*, store=None"}}
METHODS = {
    Observer: {
        "observe": "key, *, cost=0", "undo": "", "redo": "", "universe_keys": "", "observed": "", "shapes_left": "",
        "example": "", "forecast": "key", "certain_keys": "", "twin": "", "__len__": "", "__eq__": "other",
        "__repr__": ""},
    Store: {
        "apply": "command", "apply_all": "commands", "undo": "", "redo": "", "names": "", "shape_of": "name",
        "total_cost": "", "steps": "", "distance": "name, other", "watch": "name, key", "unwatch": "number",
        "watched": "", "news": "", "clone": "", "__len__": "", "__eq__": "other", "__repr__": ""},
    Console: {"store": "", "answer": "line"}}

TREE = (4, 2, 1, 3, 6, 5)
ROUND = ("repeat", 2, (1, 3))
# A call of each function by keywords, with defaults left out, and its answer.
CALLS = {
    "is_key": (dict(number=10 ** 9 + 1), False),
    "check_shape": (dict(shape=TREE), None),
    "is_shape": (dict(shape=(4, 2, 6, 3)), False),
    "build": (dict(order=[4, 6, 2, 3, 5, 1]), TREE),
    "root_of": (dict(shape=TREE), 4),
    "restrict": (dict(shape=TREE), TREE),
    "parts_of": (dict(shape=TREE), ((2, 1, 3), (6, 5))),
    "search_path": (dict(key=7, shape=TREE), [4, 6]),
    "path_to": (dict(key=3, shape=TREE), [4, 2, 3]),
    "depth_of": (dict(key=3, shape=TREE), 2),
    "all_depths": (dict(shape=(4, 2, 6, 5)), {4: 0, 2: 1, 6: 1, 5: 2}),
    "parent_of": (dict(key=3, shape=TREE), 2),
    "children_of": (dict(key=6, shape=TREE), (5, None)),
    "bounds_of": (dict(key=3, shape=TREE), (2, 4)),
    "subtree_at": (dict(key=2, shape=TREE), (2, 1, 3)),
    "is_above": (dict(other=3, one=4, shape=TREE), True),
    "spine_lengths": (dict(shape=TREE), (3, 2)),
    "mirror": (dict(shape=(4, 2, 6, 5)), (-4, -6, -5, -2)),
    "rotate": (dict(key=2, shape=(4, 2, 1, 3, 6)), (2, 1, 4, 3, 6)),
    "rotation_steps": (dict(key=3, shape=(4, 2, 1, 3)), [(4, 2, 1, 3), (4, 3, 2, 1), (3, 2, 1, 4)]),
    "touch": (dict(key=3, shape=TREE), ((3, 2, 1, 4, 6, 5), 2)),
    "touch_all": (dict(keys=[3, 3, 1], shape=(4, 2, 1, 3)), ((1, 3, 2, 4), [2, 0, 2])),
    "insert_key": (dict(key=3, shape=(4, 2, 6)), ((3, 2, 4, 6), 2)),
    "remove_key": (dict(key=4, shape=(4, 2, 1, 3, 6)), ((3, 2, 1, 6), 2)),
    "cut_at": (dict(key=3, shape=(4, 2, 1, 3, 6)), ((3, 2, 1), (4, 6), 2)),
    "join_trees": (dict(other=(6, 5), one=(2, 1, 3)), ((3, 2, 1, 6, 5), 1)),
    "check_history": (dict(history=[5, ROUND]), None),
    "count_touches": (dict(history=[5, ROUND]), 5),
    "last_touches": (dict(history=[5, ROUND]), [3, 1, 5]),
    "touched_keys": (dict(history=[5, ROUND]), [1, 3, 5]),
    "top_shape": (dict(history=[5, ROUND]), (3, 1, 5)),
    "unroll": (dict(history=[5, ROUND]), [5, 1, 3, 1, 3]),
    "run_history": (dict(history=[ROUND], shape=(3, 1, 2)), ((3, 1, 2), 4)),
    "spared_keys": (dict(keys=[4, 5, 6], history=[5, 4, 6]), [5]),
    "core_shape": (dict(keys=[4, 5, 6], history=[5, 4, 6]), (6, 4)),
    "effect_difference": (dict(keys=[4, 5, 6], other=[4, 6], one=[5, 4, 6]), None),
    "difference_holds": (dict(paper=((1, 2), 1, 2), keys=[1, 2], other=[2], one=[1]), True),
    "binomial": (dict(chosen=2, size=5), 10),
    "count_trees": (dict(size=4), 14),
    "count_by_spines": (dict(right=2, left=1, size=3), 1),
    "count_orders": (dict(shape=(4, 2, 1, 3, 6)), 8),
    "all_shapes": (dict(keys=[1, 2]), [(1, 2), (2, 1)]),
    "needed_keys": (dict(other=(2, 1, 4, 3, 6), one=(4, 2, 1, 3, 6)), [2]),
    "shortest_history": (dict(other=(3, 2, 1), one=(1, 2, 3)), [2, 3]),
    "count_shortest": (dict(other=(3, 1, 2, 4), one=(1, 2, 3, 4)), 1),
    "needed_paper": (dict(other=(2, 1), one=(1, 2)), [(2, 2, 1)]),
    "paper_holds": (dict(paper=[(1, 2, 1)], other=(2, 1), one=(1, 2)), False),
    "log_of": (dict(touches=[3, 1, 3], shape=(4, 2, 1, 3)), [(3, 2), (1, 2), (3, 1)]),
    "read_gaps": (dict(log=[(3, 2), (1, 2)], keys=[1, 2, 3, 4]), [(None, None, 3, 2), (None, 3, 1, 1)]),
    "count_shapes": (dict(log=[(2, 1)], keys=[1, 2, 3]), 2),
    "find_shape": (dict(log=[(3, 2), (1, 1)], keys=[1, 2, 3]), (1, 2, 3)),
    "next_costs": (dict(key=1, log=[(2, 1)], keys=[1, 2, 3]), [(1, 2)]),
    "log_paper": (dict(log=[(1, 1), (2, 0)], keys=[1, 2]), ("conflict", 1)),
    "log_paper_holds": (dict(paper=("shape", (2, 1)), log=[(1, 1)], keys=[1, 2]), True),
    "Observer": (dict(keys=[1, 2]), Observer([1, 2])),
    "mean_cost": (dict(keys=[1, 2]), (1, 2)),
    "weighted_depth": (dict(shape=(4, 2, 6, 5)), 4),
    "best_fixed": (dict(keys=[1, 2, 3]), ((2, 1, 3), 2)),
    "is_name": (dict(text="oak"), True),
    "Store": ({}, Store()),
    "format_history": (dict(history=[5, ("repeat", 3, (2, -4))]), "5 3*(2 -4)"),
    "parse_history": (dict(text="5 3*(2 -4)"), [5, ("repeat", 3, (2, -4))]),
    "format_store": (dict(store=parse_store("tree oak 2 1\n")), "tree oak 2 1\n"),
    "parse_store": (dict(text=""), Store())}


def everything():
    """A list of pairs of the name and the function or class, for the whole interface."""
    return [
        (name, getattr(importlib.import_module("touchtrees." + module), name))
        for module, names in FUNCTIONS.items() for name in names]


def with_tuples(worth):
    """An argument with a tuple in place of each list."""
    if isinstance(worth, (list, tuple)):
        return tuple([with_tuples(part) for part in worth])
    return worth


class Names(unittest.TestCase):

    def test_constants(self):
        for module, values in CONSTANTS.items():
            found = vars(importlib.import_module("touchtrees." + module))
            self.assertEqual({name: found[name] for name in values}, values)

    def test_functions_and_classes_take_the_listed_arguments(self):
        for module, names in FUNCTIONS.items():
            for name, parameters in names.items():
                found = getattr(importlib.import_module("touchtrees." + module), name)
                self.assertEqual(str(inspect.signature(found)), f"({parameters})", name)
                self.assertEqual(found.__module__, "touchtrees." + module, name)

    def test_methods_stand_in_their_classes_and_take_the_listed_arguments(self):
        for kind, names in METHODS.items():
            for name, parameters in names.items():
                self.assertIn(name, vars(kind))
                told = "self, " + parameters if parameters else "self"
                self.assertEqual(str(inspect.signature(vars(kind)[name])), f"({told})", name)


class Calls(unittest.TestCase):

    def test_each_function_by_keyword(self):
        for name, function in everything():
            if name != "Console":
                arguments, answer = CALLS[name]
                given = copy.deepcopy(arguments)
                found = function(**given)
                self.assertEqual(found, answer, name)
                self.assertIs(type(found), type(answer), name)
                self.assertEqual(given, arguments, name)

    def test_tuples_in_place_of_lists(self):
        for name, function in everything():
            if name != "Console":
                arguments, answer = CALLS[name]
                given = {word: with_tuples(worth) for word, worth in arguments.items()}
                found = function(**given)
                self.assertEqual(found, answer, name)
                self.assertIs(type(found), type(answer), name)

    def test_returned_lists_and_dicts_are_new_ones(self):
        for name, function in everything():
            if isinstance(CALLS.get(name, ({}, None))[1], (list, dict)):
                arguments, answer = CALLS[name]
                found = function(**arguments)
                self.assertFalse(any(found is worth for worth in arguments.values()), name)
                found.clear()
                self.assertEqual(function(**arguments), answer, name)

    def test_the_methods_of_observers_by_keyword(self):
        watcher = Observer(keys=(1, 2, 3))
        self.assertEqual(watcher.observe(key=2, cost=1), 2)
        self.assertEqual(watcher.observe(key=2), 2)
        self.assertEqual(watcher.forecast(key=1), [(1, 2)])

    def test_the_methods_of_stores_by_keyword(self):
        store = Store()
        self.assertEqual(store.apply(command=("new", "oak", [2, 1, 3])), 0)
        self.assertEqual(store.apply_all(commands=[("copy", "oak", "elm"), ("touch", "elm", 3)]), [0, 1])
        self.assertEqual(store.shape_of(name="elm"), (3, 2, 1))
        self.assertEqual(store.distance(other="elm", name="oak"), 1)
        self.assertEqual(store.watch(key=1, name="oak"), 1)
        self.assertIsNone(store.unwatch(number=1))

    def test_the_methods_of_consoles_by_keyword(self):
        store = parse_store(text="tree oak 2 1\n")
        console = Console(store=store)
        self.assertEqual(console.answer(line="show oak"), "2 1")
        self.assertIs(console.store(), store)


if __name__ == "__main__":
    unittest.main()
