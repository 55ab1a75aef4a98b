"""Stores, compared with commands over nested trees."""

import copy
import random
import unittest
from collections import Counter

from touchtrees.errors import (
    BadCommand, BadKey, BadName, BadStep, DuplicateKey, EmptyHistory, KeysDiffer, NameTaken, NoKey, NoTree, NoWatch,
    Overlap, SameName, TooLong, TooManyKeys, TooManyTrees, TooManyWatches)
from touchtrees.store import MAX_TREES, MAX_WATCHES, Store, is_name

import models
import trees
from refusals import FIELDS, RefusalCase
from samples import repeat

GREAT = 10 ** 30
FORTY = tuple(range(100, 140))


def store_with(**orders):
    """A store with trees that are built from orders, in one step."""
    store = Store()
    store.apply_all([("new", name, order) for name, order in orders.items()])
    return store


def full_store():
    """A store with six trees: one with 40 keys, two that can be joined, one that overlaps, an empty and a long one."""
    return store_with(oak=(4, 2, 6, 1), elm=(8, 7, 9), ash=(5, 3), big=FORTY, nil=(), long=tuple(range(60, 90)))


def trees_of(store):
    return {name: store.shape_of(name) for name in store.names()}


def state_of(store):
    """All that a store tells, the values told last and all that can be undone and redone included."""
    news = store.clone().news()
    told = [trees_of(store), store.total_cost(), store.steps(), store.watched(), news, len(store), repr(store)]
    earlier, later = store.clone(), store.clone()
    for _ in range(store.steps()[0]):
        earlier.undo()
        told.append((trees_of(earlier), earlier.total_cost()))
    for _ in range(store.steps()[1]):
        later.redo()
        told.append((trees_of(later), later.total_cost()))
    return told


class Names(unittest.TestCase):

    def test_limits(self):
        self.assertEqual([MAX_TREES, MAX_WATCHES], [6, 6])

    def test_examples(self):
        self.assertEqual([is_name("oak"), is_name("Oak"), is_name("")], [True, False, False])

    def test_letters_and_lengths(self):
        for text in ("a", "z", "az", "abcdef", "zzzzzz", "mmm"):
            self.assertIs(is_name(text), True)
            self.assertIs(is_name(text=text), True)
        for text in models.BAD_NAMES + ("abcdefg", "a" * 4000, "`", "{", "A", "Z", "aB", "1", "a1", "-", " ", "a ", " a"):
            self.assertIs(is_name(text), False, text)

    def test_every_character(self):
        for number in [10] + list(range(32, 127)):
            for text in (chr(number), "ab" + chr(number), chr(number) + "ab"):
                self.assertIs(is_name(text), ord("a") <= number <= ord("z"), text)


class Commands(RefusalCase):

    def check(self, store, command, cost, **expected):
        """A command has a cost, and changes just these trees; None for a tree that is gone."""
        shapes = trees_of(store)
        done, undone = store.steps()
        total = store.total_cost()
        self.assertEqual(store.apply(command), cost)
        for name, shape in expected.items():
            if shape is None:
                del shapes[name]
            else:
                shapes[name] = shape
        self.assertEqual(trees_of(store), shapes)
        self.assertEqual(store.steps(), (done + 1, 0))
        self.assertEqual(store.total_cost(), total + cost)

    def assert_kept(self, store, error, worth, command):
        """A command raises an error, alone and inside of a batch, and the store is as before."""
        before = state_of(store)
        self.assert_refused(error, worth, store.apply, command)
        self.assert_refused(error, worth, store.apply_all, [command])
        self.assert_refused(error, worth, store.apply_all, [("touch", "big", 120), command, ("drop", "big")])
        self.assertEqual(state_of(store), before)

    def test_examples(self):
        store = Store()
        self.assertEqual(store.apply(("new", "oak", (2, 1, 3))), 0)
        self.assertEqual(store.apply(("touch", "oak", 3)), 1)
        self.assert_refused(NoTree, "oak", Store().apply, ("drop", "oak"))
        self.assertEqual(Store().apply_all([("new", "oak", (2, 1, 3)), ("cut", "oak", 1, "elm")]), [0, 1])
        self.assert_refused(BadCommand, "grow", Store().apply_all, [("new", "oak", ()), ("grow", "oak")])

    def test_new(self):
        store = Store()
        self.check(store, ("new", "oak", [4, 6, 2, 3, 5, 1]), 0, oak=(4, 2, 1, 3, 6, 5))
        self.check(store, ("new", "elm", ()), 0, elm=())
        self.check(store, ("new", "big", FORTY), 0, big=FORTY)
        self.check(store, ("new", "a", (10 ** 9, -10 ** 9)), 0, a=(10 ** 9, -10 ** 9))

    def test_drop(self):
        store = full_store()
        self.check(store, ("drop", "oak"), 0, oak=None)
        self.check(store, ("drop", "nil"), 0, nil=None)

    def test_touch_insert_and_remove(self):
        store = store_with(oak=(4, 2, 1, 3, 6), elm=(4, 2, 6), one=(4, 6))
        self.check(store, ("touch", "oak", 3), 2, oak=(3, 2, 1, 4, 6))
        self.check(store, ("touch", "oak", 3), 0, oak=(3, 2, 1, 4, 6))
        self.check(store, ("insert", "elm", 3), 2, elm=(3, 2, 4, 6))
        self.check(store, ("insert", "elm", -10 ** 9), 2, elm=(-10 ** 9, 3, 2, 4, 6))
        self.check(store, ("remove", "one", 4), 0, one=(6,))
        self.check(store, ("remove", "one", 6), 0, one=())
        self.check(store, ("insert", "one", 8), 0, one=(8,))
        store = store_with(oak=(4, 2, 1, 3, 6))
        self.check(store, ("remove", "oak", 4), 2, oak=(3, 2, 1, 6))

    def test_run(self):
        store = store_with(oak=(3, 1, 2), nil=())
        self.check(store, ("run", "oak", [("repeat", 10, (1, 3))]), 20, oak=(3, 1, 2))
        self.check(store, ("run", "oak", ()), 0, oak=(3, 1, 2))
        self.check(store, ("run", "oak", (repeat(GREAT, 1, 3), 2)), 2 * GREAT + 2, oak=(2, 1, 3))
        self.check(store, ("run", "nil", [repeat(0, 9), repeat(GREAT)]), 0, nil=())

    def test_cut(self):
        store = store_with(oak=(4, 2, 1, 3, 6))
        self.check(store, ("cut", "oak", 3, "elm"), 2, oak=(3, 2, 1), elm=(4, 6))
        self.check(store, ("cut", "oak", 3, "ash"), 0, oak=(3, 2, 1), ash=())

    def test_join(self):
        store = full_store()
        self.check(store, ("join", "oak", "elm"), 1, oak=(6, 4, 2, 1, 8, 7, 9), elm=None)
        self.check(store, ("join", "oak", "nil"), 0, oak=(6, 4, 2, 1, 8, 7, 9), nil=None)
        store = full_store()
        self.check(store, ("join", "nil", "ash"), 0, nil=(5, 3), ash=None)
        store = store_with(a=(), b=(), c=range(20), d=range(20, 40), e=(50,))
        self.check(store, ("join", "a", "b"), 0, a=(), b=None)
        self.check(store, ("join", "c", "d"), 19, c=(19,) + tuple(range(19)) + tuple(range(20, 40)), d=None)
        self.assert_refused(TooManyKeys, 40, store.apply, ("join", "c", "e"))

    def test_copy_and_swap(self):
        store = store_with(oak=(2, 1), elm=(5,))
        self.check(store, ("copy", "oak", "ash"), 0, ash=(2, 1))
        self.check(store, ("touch", "ash", 1), 1, ash=(1, 2))
        self.check(store, ("swap", "oak", "elm"), 0, oak=(5,), elm=(2, 1))
        self.check(store, ("swap", "elm", "oak"), 0, oak=(2, 1), elm=(5,))

    def test_each_error_and_each_two_errors_of_new(self):
        store = full_store()
        many, strange, double = tuple(range(41)), (1, 10 ** 10, -10 ** 10), (1, 2, 2, 1)
        for order in ((), many, strange, double):
            for name in models.BAD_NAMES:
                self.assert_kept(store, BadName, name, ("new", name, order))
            self.assert_kept(store, NameTaken, "oak", ("new", "oak", order))
            self.assert_kept(store, TooManyTrees, 6, ("new", "fir", order))
        store.apply(("drop", "elm"))
        for order in ((), many, strange, double):
            self.assert_kept(store, BadName, "Oak", ("new", "Oak", order))
            self.assert_kept(store, NameTaken, "oak", ("new", "oak", order))
        self.assert_kept(store, TooManyKeys, 40, ("new", "fir", many))
        self.assert_kept(store, TooManyKeys, 40, ("new", "fir", many[1:] + (10 ** 10,)))
        self.assert_kept(store, TooManyKeys, 40, ("new", "fir", [1] * 41))
        self.assert_kept(store, BadKey, 10 ** 10, ("new", "fir", strange))
        self.assert_kept(store, BadKey, GREAT, ("new", "fir", [1, 1, GREAT]))
        self.assert_kept(store, DuplicateKey, 2, ("new", "fir", double))

    def test_each_error_of_commands_with_a_name_only_or_a_key(self):
        store = full_store()
        for name in ("fir", "", "Oak", "sevenly"):
            self.assert_kept(store, NoTree, name, ("drop", name))
            for word in ("touch", "insert", "remove"):
                for key in (1, 77, GREAT):
                    self.assert_kept(store, NoTree, name, (word, name, key))
        for key in (0, 3, 10 ** 9, -GREAT):
            self.assert_kept(store, NoKey, key, ("touch", "oak", key))
            self.assert_kept(store, NoKey, key, ("remove", "oak", key))
            self.assert_kept(store, NoKey, key, ("touch", "nil", key))

    def test_each_error_and_each_two_errors_of_insert(self):
        store = full_store()
        for key in (10 ** 9 + 1, -10 ** 9 - 1, GREAT):
            self.assert_kept(store, BadKey, key, ("insert", "oak", key))
            self.assert_kept(store, BadKey, key, ("insert", "big", key))
            self.assert_kept(store, NoTree, "fir", ("insert", "fir", key))
        self.assert_kept(store, DuplicateKey, 4, ("insert", "oak", 4))
        self.assert_kept(store, DuplicateKey, 139, ("insert", "big", 139))
        self.assert_kept(store, TooManyKeys, 40, ("insert", "big", 140))

    def test_each_error_and_each_two_errors_of_run(self):
        store = full_store()
        for history in ([], [1], [77], [1] * 101, [GREAT], [repeat(-1)], [77] * 101):
            self.assert_kept(store, NoTree, "fir", ("run", "fir", history))
        for rest in ([], [77], [GREAT]):
            self.assert_kept(store, TooLong, 100, ("run", "oak", [77] * 100 + [1] + rest))
            self.assert_kept(store, TooLong, 100, ("run", "oak", [repeat(0, *[1] * 99), 1] + rest))
        self.assert_kept(store, BadStep, 1, ("run", "oak", [77, GREAT, 1]))
        self.assert_kept(store, BadStep, 99, ("run", "oak", [77] * 99 + [(), 1, 1]))
        self.assert_kept(store, BadStep, 5, ("run", "oak", [77, repeat(1, repeat(1, repeat(1, repeat(1, repeat(1)))))]))
        self.assert_kept(store, BadStep, 1, ("run", "oak", [1, ("twice", 2, (77,))]))
        self.assert_kept(store, NoKey, 77, ("run", "oak", [1, repeat(0, 78), repeat(2, 4, 77), 79]))
        self.assert_kept(store, NoKey, 1, ("run", "nil", [1]))

    def test_each_error_and_each_two_errors_of_cut(self):
        store = full_store()
        for key in (4, 77):
            for other in ("", "Oak", "elm", "oak", "pine", "fir"):
                self.assert_kept(store, NoTree, "fir", ("cut", "fir", key, other))
            for other in models.BAD_NAMES:
                self.assert_kept(store, BadName, other, ("cut", "oak", key, other))
            self.assert_kept(store, NameTaken, "elm", ("cut", "oak", key, "elm"))
            self.assert_kept(store, NameTaken, "oak", ("cut", "oak", key, "oak"))
            self.assert_kept(store, TooManyTrees, 6, ("cut", "oak", key, "fir"))
        store.apply(("drop", "elm"))
        self.assert_kept(store, BadName, "Fir", ("cut", "oak", 77, "Fir"))
        self.assert_kept(store, NameTaken, "oak", ("cut", "oak", 77, "oak"))
        self.assert_kept(store, NoKey, 77, ("cut", "oak", 77, "fir"))
        self.assert_kept(store, NoTree, "elm", ("cut", "elm", 7, "fir"))

    def test_each_error_and_each_two_errors_of_join(self):
        store = full_store()
        self.assert_kept(store, NoTree, "fir", ("join", "fir", "oak"))
        self.assert_kept(store, NoTree, "fir", ("join", "fir", "pine"))
        self.assert_kept(store, NoTree, "fir", ("join", "fir", "fir"))
        self.assert_kept(store, NoTree, "pine", ("join", "oak", "pine"))
        self.assert_kept(store, NoTree, "", ("join", "big", ""))
        self.assert_kept(store, SameName, "oak", ("join", "oak", "oak"))
        self.assert_kept(store, SameName, "big", ("join", "big", "big"))
        self.assert_kept(store, SameName, "nil", ("join", "nil", "nil"))
        self.assert_kept(store, Overlap, 6, ("join", "oak", "ash"))
        self.assert_kept(store, Overlap, 9, ("join", "elm", "oak"))
        self.assert_kept(store, Overlap, 139, ("join", "big", "oak"))
        self.assert_kept(store, TooManyKeys, 40, ("join", "oak", "big"))
        self.assert_kept(store, TooManyKeys, 40, ("join", "long", "big"))

    def test_each_error_and_each_two_errors_of_copy_and_swap(self):
        store = full_store()
        for other in ("", "Oak", "elm", "pine", "fir"):
            self.assert_kept(store, NoTree, "fir", ("copy", "fir", other))
            self.assert_kept(store, NoTree, "fir", ("swap", "fir", other))
        for other in models.BAD_NAMES:
            self.assert_kept(store, BadName, other, ("copy", "oak", other))
            self.assert_kept(store, NoTree, other, ("swap", "oak", other))
        for other in ("oak", "elm", "nil"):
            self.assert_kept(store, NameTaken, other, ("copy", "oak", other))
        self.assert_kept(store, TooManyTrees, 6, ("copy", "oak", "fir"))
        store.apply(("drop", "elm"))
        self.assert_kept(store, BadName, "Fir", ("copy", "oak", "Fir"))
        self.assert_kept(store, NoTree, "elm", ("copy", "elm", "fir"))
        self.assert_kept(store, SameName, "oak", ("swap", "oak", "oak"))

    def test_bad_commands(self):
        store = full_store()
        self.assert_kept(store, BadCommand, None, ())
        for word in ("", "grow", "New", "new ", "touches", "undo", "redo", "names", "watch", "clone", "apply"):
            for rest in ((), ("oak",), ("oak", 1), ("oak", "elm"), ("oak", 1, "fir")):
                self.assert_kept(store, BadCommand, word, (word,) + rest)
        for word, length in models.LENGTHS.items():
            fitting = (word, "fir", 1, "pine", 2, 3)
            for many in (1, 2, 3, 4, 5, 6):
                if many != length:
                    self.assert_kept(store, BadCommand, word, fitting[:many])

    def test_arguments_by_keyword(self):
        store = Store()
        self.assertEqual(store.apply(command=("new", "oak", (2, 1, 3))), 0)
        self.assertEqual(store.apply_all(commands=[("touch", "oak", 1), ("touch", "oak", 3)]), [1, 2])


class Batches(RefusalCase):

    def test_the_empty_batch_is_a_step(self):
        store = store_with(oak=(2, 1))
        for empty in ([], ()):
            self.assertEqual(store.apply_all(empty), [])
        self.assertEqual([store.steps(), store.total_cost(), store.names()], [(3, 0), 0, ["oak"]])
        store.undo()
        self.assertEqual(store.steps(), (2, 1))
        store.apply_all([])
        self.assertEqual(store.steps(), (3, 0))

    def test_a_batch_is_one_step(self):
        store = Store()
        commands = (("new", "oak", (2, 1, 3)), ("touch", "oak", 3), ("copy", "oak", "elm"), ("touch", "elm", 1))
        self.assertEqual(store.apply_all(commands), [0, 1, 0, 2])
        self.assertEqual([store.steps(), store.total_cost()], [(1, 0), 3])
        store.undo()
        self.assertEqual([store.steps(), store.total_cost(), store.names()], [(0, 1), 0, []])

    def test_commands_that_rest_on_earlier_ones(self):
        store = full_store()
        batch = [
            ("drop", "oak"), ("new", "fir", (5, 4)), ("insert", "fir", 6), ("swap", "fir", "elm"), ("cut", "elm", 5, "oak")]
        self.assert_refused(TooManyTrees, 6, store.apply_all, batch)
        self.assertEqual(store, full_store())
        self.assertEqual(store.apply_all([("drop", "nil")] + batch), [0, 0, 0, 1, 0, 1])
        self.assertEqual([store.shape_of("elm"), store.shape_of("oak"), store.shape_of("fir")], [(5, 4), (6,), (8, 7, 9)])

    def test_an_error_at_the_first_a_middle_and_the_last_command(self):
        store = store_with(oak=(3, 1, 2), elm=(5,))
        store.apply(("touch", "oak", 1))
        store.apply(("touch", "oak", 2))
        store.undo()
        store.watch("oak", 3)
        store.watch("elm", 5)
        store.apply(("touch", "oak", 2))
        store.undo()
        before = state_of(store)
        good = [("touch", "oak", 3), ("drop", "elm"), ("new", "ash", (1, 2)), ("run", "ash", [2, 1])]
        for wrong, error, worth in (
                (("touch", "oak", 9), NoKey, 9), (("drop", "fir"), NoTree, "fir"), (("new", "Oak", ()), BadName, "Oak"),
                (("run", "oak", [1, GREAT]), BadStep, 1), (("join", "oak", "oak"), SameName, "oak"),
                (("grow",), BadCommand, "grow"), ((), BadCommand, None)):
            for at in range(len(good) + 1):
                self.assert_refused(error, worth, store.apply_all, good[:at] + [wrong] + good[at:])
                self.assertEqual(state_of(store), before)

    def test_a_bad_command_comes_before_earlier_errors(self):
        store = store_with(oak=(2, 1))
        for wrong in (("drop", "fir"), ("new", "Oak", ()), ("touch", "oak", 9)):
            self.assert_refused(BadCommand, "grow", store.apply_all, [wrong, ("touch", "oak", 1), ("grow", "oak")])
            self.assert_refused(BadCommand, None, store.apply_all, [wrong, (), ("grow", "oak")])
            self.assert_refused(BadCommand, "touch", store.apply_all, [wrong, ("touch", "oak"), ()])
        self.assertEqual([store.steps(), store.shape_of("oak")], [(1, 0), (2, 1)])

    def test_random_batches_against_nested_trees(self):
        rng = random.Random(60)
        seen = Counter()
        for _ in range(150):
            store, forest, past, future, total = Store(), {}, [], [], 0
            for _ in range(60):
                many = rng.choice((0, 1, 1, 1, 1, 2, 3))
                commands, after = [], forest
                for _ in range(many):
                    commands.append(models.random_command(rng, after))
                    try:
                        after = models.apply_all(after, commands[-1:])[0]
                    except models.Refused:
                        break
                if rng.random() < 0.25 and (past or future):
                    here = (forest, total)
                    if past and rng.random() < 0.6:
                        store.undo()
                        future.append(here)
                        forest, total = past.pop()
                    elif future:
                        store.redo()
                        past.append(here)
                        forest, total = future.pop()
                else:
                    given = copy.deepcopy(commands)
                    try:
                        after, costs = models.apply_all(forest, commands)
                    except models.Refused as refused:
                        seen[refused.told[0]] += 1
                        with self.assertRaises((ValueError, LookupError)) as caught:
                            store.apply_all(given)
                        error = caught.exception
                        self.assertEqual((error.tag, getattr(error, FIELDS[error.tag])), refused.told)
                    else:
                        seen.update(command[0] for command in commands)
                        self.assertEqual(store.apply_all(given), costs)
                        past, future = past + [(forest, total)], []
                        forest, total = after, total + sum(costs)
                    self.assertEqual(given, commands)
                self.assertEqual(trees_of(store), models.shapes_of(forest))
                self.assertEqual([store.total_cost(), store.steps()], [total, (len(past), len(future))])
                self.assertEqual(len(store), len(forest))
        self.assertGreaterEqual(min(seen[word] for word in models.LENGTHS), 50, seen)
        tags = "NoTree BadName NameTaken TooManyTrees NoKey SameName Overlap DuplicateKey BadKey".split()
        self.assertGreaterEqual(min(seen[tag] for tag in tags), 5, seen)


class UndoAndRedo(RefusalCase):

    def test_examples(self):
        self.assert_refused(EmptyHistory, None, Store().undo)
        store = Store()
        store.apply(("new", "oak", (2, 1)))
        self.assertIsNone(store.undo())
        self.assertIsNone(store.redo())
        self.assertEqual(store.names(), ["oak"])
        store = Store()
        store.apply_all([])
        store.undo()
        self.assertEqual(store.steps(), (0, 1))

    def test_several_in_a_row(self):
        store = Store()
        seen = [(trees_of(store), 0, "Store(0 trees, 0 keys)")]
        for command in (
                ("new", "oak", (3, 1, 2)), ("touch", "oak", 2), ("cut", "oak", 1, "elm"), ("swap", "oak", "elm"),
                ("drop", "oak"), ("run", "elm", [repeat(GREAT, 1)])):
            store.apply(command)
            seen.append((trees_of(store), store.total_cost(), repr(store)))
        for done in range(5, -1, -1):
            store.undo()
            self.assertEqual((trees_of(store), store.total_cost(), repr(store)), seen[done])
            self.assertEqual([store.steps(), len(store)], [(done, 6 - done), len(seen[done][0])])
        self.assert_refused(EmptyHistory, None, store.undo)
        self.assertEqual(store.steps(), (0, 6))
        for done in range(1, 7):
            store.redo()
            self.assertEqual((trees_of(store), store.total_cost(), repr(store)), seen[done])
            self.assertEqual([store.steps(), len(store)], [(done, 6 - done), len(seen[done][0])])
        self.assert_refused(EmptyHistory, None, store.redo)
        self.assertEqual(store.steps(), (6, 0))

    def test_a_new_step_after_an_undo(self):
        store = store_with(oak=(3, 1, 2))
        store.apply(("touch", "oak", 2))
        store.apply(("touch", "oak", 1))
        store.undo()
        store.undo()
        self.assertEqual(store.steps(), (1, 2))
        store.apply(("touch", "oak", 1))
        self.assertEqual([store.steps(), store.total_cost()], [(2, 0), 1])
        self.assert_refused(EmptyHistory, None, store.redo)
        store.undo()
        self.assertEqual([store.shape_of("oak"), store.total_cost()], [(3, 1, 2), 0])

    def test_an_error_keeps_what_can_be_redone(self):
        store = store_with(oak=(3, 1, 2))
        store.apply(("touch", "oak", 2))
        store.undo()
        self.assert_refused(NoKey, 9, store.apply, ("touch", "oak", 9))
        self.assertEqual(store.steps(), (1, 1))
        store.redo()
        self.assertEqual(store.shape_of("oak"), (2, 1, 3))

    def test_two_hundred_steps(self):
        store = store_with(oak=(2, 1))
        for _ in range(200):
            store.apply(("touch", "oak", 1))
            store.apply(("touch", "oak", 2))
        self.assertEqual([store.steps(), store.total_cost()], [(401, 0), 400])
        for _ in range(401):
            store.undo()
        self.assertEqual([store.steps(), store.total_cost(), len(store)], [(0, 401), 0, 0])


class ChangedArguments(RefusalCase):

    def test_the_order_of_a_new_tree(self):
        store = Store()
        order = [3, 1, 2]
        store.apply(("new", "oak", order))
        order.append(9)
        order[0] = 7
        self.assertEqual(store.shape_of("oak"), (3, 1, 2))
        store.undo()
        order.clear()
        store.redo()
        self.assertEqual(store.shape_of("oak"), (3, 1, 2))

    def test_the_steps_of_a_history(self):
        store = store_with(oak=(3, 1, 2))
        inner = [1, 2]
        history = [3, ("repeat", 2, inner)]
        cost = store.apply(("run", "oak", history))
        shape = store.shape_of("oak")
        self.assertEqual(history, [3, ("repeat", 2, [1, 2])])
        inner.append(99)
        history.append(GREAT)
        self.assertEqual([store.shape_of("oak"), store.total_cost()], [shape, cost])
        store.undo()
        store.redo()
        self.assertEqual([store.shape_of("oak"), store.total_cost()], [shape, cost])

    def test_the_list_of_a_batch(self):
        store = Store()
        batch = [("new", "oak", [3, 1, 2]), ("touch", "oak", 1)]
        costs = store.apply_all(batch)
        batch.append(("grow",))
        del batch[0]
        costs.append(50)
        store.undo()
        store.redo()
        self.assertEqual([store.shape_of("oak"), store.total_cost(), store.steps()], [(1, 3, 2), 1, (1, 0)])

    def test_returned_lists(self):
        store = store_with(oak=(2, 1), elm=())
        store.watch("oak", 1)
        store.names().append("fir")
        store.watched().clear()
        store.apply(("touch", "oak", 1))
        news = store.clone().news()
        news.clear()
        self.assertEqual([store.names(), store.watched(), store.news()], [["elm", "oak"], [(1, "oak", 1, 0)], [(1, 0)]])


class Questions(RefusalCase):

    def test_examples(self):
        self.assertEqual(repr(Store()), "Store(0 trees, 0 keys)")
        store = Store()
        store.apply_all([("new", "oak", ()), ("copy", "oak", "elm")])
        self.assertEqual(store.names(), ["elm", "oak"])
        store = Store()
        store.apply_all([("new", "oak", (2, 1, 3)), ("insert", "oak", 4)])
        self.assertEqual([store.shape_of("oak"), store.total_cost()], [(4, 2, 1, 3), 2])
        store = store_with(oak=(1, 2, 3), elm=(3, 2, 1))
        self.assertEqual(store.distance("oak", "elm"), 2)

    def test_shape_of(self):
        store = full_store()
        self.assertEqual([store.shape_of("nil"), store.shape_of(name="oak")], [(), (4, 2, 1, 6)])
        for name in ("fir", "", "Oak", "oak "):
            self.assert_refused(NoTree, name, store.shape_of, name)

    def test_length_and_repr(self):
        store = full_store()
        self.assertEqual([len(store), repr(store)], [6, "Store(6 trees, 79 keys)"])
        store = store_with(a=(1,))
        self.assertEqual([len(store), repr(store)], [1, "Store(1 trees, 1 keys)"])

    def test_distance(self):
        store = store_with(oak=(4, 2, 1, 3, 6), elm=(2, 1, 4, 3, 6), ash=(4, 2, 1, 3), nil=(), nix=())
        self.assertEqual([store.distance("oak", "elm"), store.distance("elm", "oak")], [1, 1])
        self.assertEqual([store.distance(other="oak", name="oak"), store.distance("nil", "nix")], [0, 0])
        self.assert_refused(NoTree, "fir", store.distance, "fir", "oak")
        self.assert_refused(NoTree, "fir", store.distance, "fir", "yew")
        self.assert_refused(NoTree, "fir", store.distance, "fir", "fir")
        self.assert_refused(NoTree, "yew", store.distance, "oak", "yew")
        self.assert_refused(KeysDiffer, 6, store.distance, "oak", "ash")
        self.assert_refused(KeysDiffer, 1, store.distance, "nil", "ash")
        before = state_of(store)
        store.distance("oak", "elm")
        self.assertEqual(state_of(store), before)

    def test_equality(self):
        one, other = store_with(oak=(2, 1), elm=()), store_with(elm=(), oak=(2, 1))
        self.assertIs(one == other, True)
        self.assertIs(one != other, False)
        other.apply(("touch", "oak", 1))
        self.assertIs(one == other, False)
        self.assertIs(one != other, True)
        other.apply(("touch", "oak", 2))
        other.watch("oak", 1)
        self.assertIs(one == other, True)
        other.undo()
        self.assertIs(one == other, False)
        other.redo()
        self.assertIs(one == other, True)
        other.apply(("drop", "elm"))
        self.assertIs(one == other, False)
        self.assertIs(store_with(oak=(1,)) == store_with(elm=(1,)), False)
        self.assertIs(Store() == Store(), True)

    def test_a_store_is_equal_to_nothing_else(self):
        class Likeness:
            trees = {}

        for other in (None, {}, [], (), 0, "", "Store(0 trees, 0 keys)", Likeness()):
            self.assertIs(Store() == other, False)
            self.assertIs(Store() != other, True)
        self.assertIs(store_with(oak=(1,)) == {"oak": (1,)}, False)

    def test_questions_change_nothing(self):
        store = full_store()
        store.watch("oak", 1)
        store.apply(("touch", "oak", 1))
        store.undo()
        store.apply(("touch", "oak", 2))
        before = state_of(store)
        for _ in range(2):
            store.names(), store.shape_of("oak"), store.total_cost(), store.steps(), store.watched(), store.clone()
            store.distance("oak", "oak"), len(store), repr(store), store == full_store()
            self.assertEqual(state_of(store), before)


class Watches(RefusalCase):

    def test_examples(self):
        store = Store()
        self.assertEqual([store.watch("oak", 1), store.watch("oak", 1)], [1, 2])
        self.assert_refused(NoWatch, 1, Store().unwatch, 1)
        store = store_with(oak=(2, 1))
        store.watch("oak", 1)
        self.assertEqual(store.watched(), [(1, "oak", 1, 1)])
        store.apply(("touch", "oak", 1))
        self.assertEqual([store.news(), store.news()], [[(1, 0)], []])

    def test_missing_trees_and_keys(self):
        store = store_with(oak=(2, 1))
        rows = [("fir", 1), ("oak", 9), ("", GREAT), ("Not a name\n", -GREAT), ("oak", 1)]
        self.assertEqual([store.watch(name, key) for name, key in rows], [1, 2, 3, 4, 5])
        values = [None, None, None, None, 1]
        expected = [(at + 1, name, key, value) for at, ((name, key), value) in enumerate(zip(rows, values))]
        self.assertEqual([store.watched(), store.news()], [expected, []])
        store.apply_all([("insert", "oak", 9), ("new", "fir", (1,))])
        self.assertEqual(store.news(), [(1, 0), (2, 0), (5, 2)])
        store.apply(("drop", "oak"))
        self.assertEqual(store.news(), [(2, None), (5, None)])
        self.assertEqual(store.news(), [])

    def test_values_that_change_and_change_back(self):
        store = store_with(oak=(2, 1))
        store.watch("oak", 1)
        store.apply(("touch", "oak", 1))
        store.apply(("touch", "oak", 2))
        self.assertEqual(store.news(), [])
        store.apply(("touch", "oak", 1))
        self.assertEqual(store.news(), [(1, 0)])
        store.apply(("drop", "oak"))
        store.apply(("new", "oak", (1,)))
        self.assertEqual([store.news(), store.watched()], [[], [(1, "oak", 1, 0)]])

    def test_a_new_watch_counts_as_told(self):
        store = store_with(oak=(2, 1))
        store.watch("oak", 1)
        store.apply(("touch", "oak", 1))
        store.watch("oak", 1)
        store.watch("oak", 2)
        self.assertEqual([store.news(), store.news()], [[(1, 0)], []])

    def test_undo_and_redo_under_watches(self):
        store = store_with(oak=(2, 1))
        store.watch("oak", 1)
        store.apply(("touch", "oak", 1))
        store.watch("oak", 2)
        store.undo()
        self.assertEqual(store.watched(), [(1, "oak", 1, 1), (2, "oak", 2, 0)])
        self.assertEqual(store.news(), [(2, 0)])
        store.redo()
        self.assertEqual(store.news(), [(1, 0), (2, 1)])
        store.undo()
        store.undo()
        self.assertEqual(store.watched(), [(1, "oak", 1, None), (2, "oak", 2, None)])
        self.assertEqual(store.news(), [(1, None), (2, None)])
        store.unwatch(1)
        store.redo()
        self.assertEqual([store.watched(), store.news()], [[(2, "oak", 2, 0)], [(2, 0)]])

    def test_watches_are_no_steps(self):
        store = store_with(oak=(2, 1))
        store.undo()
        store.watch("oak", 1)
        self.assertEqual(store.steps(), (0, 1))
        store.redo()
        self.assertEqual([store.steps(), store.news()], [(1, 0), [(1, 1)]])
        store.unwatch(1)
        self.assertEqual(store.steps(), (1, 0))

    def test_numbers_are_not_used_again(self):
        store = Store()
        self.assertEqual([store.watch("oak", key) for key in range(6)], [1, 2, 3, 4, 5, 6])
        self.assertIsNone(store.unwatch(6))
        store.unwatch(2)
        self.assertEqual([store.watch("elm", 7), store.watch("elm", 8)], [7, 8])
        self.assertEqual([row[0] for row in store.watched()], [1, 3, 4, 5, 7, 8])
        for number in (1, 3, 4, 5, 7, 8):
            store.unwatch(number=number)
        self.assertEqual([store.watched(), store.news(), store.watch(key=1, name="oak")], [[], [], 9])

    def test_too_many_watches(self):
        store = Store()
        for _ in range(6):
            store.watch("oak", 1)
        before = state_of(store)
        for _ in range(2):
            self.assert_refused(TooManyWatches, 6, store.watch, "elm", 1)
        self.assertEqual(state_of(store), before)
        store.unwatch(3)
        self.assertEqual(store.watch("elm", 1), 7)

    def test_missing_watches(self):
        store = Store()
        store.watch("oak", 1)
        store.watch("oak", 2)
        store.unwatch(1)
        before = state_of(store)
        for number in (1, 0, 3, -1, GREAT):
            self.assert_refused(NoWatch, number, store.unwatch, number)
        self.assertEqual(state_of(store), before)

    def test_an_error_of_a_command_is_no_news(self):
        store = store_with(oak=(2, 1))
        store.watch("oak", 1)
        self.assert_refused(NoKey, 9, store.apply_all, [("touch", "oak", 1), ("touch", "oak", 9)])
        self.assertEqual([store.news(), store.watched()], [[], [(1, "oak", 1, 1)]])


class Clones(RefusalCase):

    def used_store(self):
        store = store_with(oak=(3, 1, 2), elm=(5,))
        store.watch("oak", 1)
        store.watch("fir", 1)
        store.unwatch(2)
        store.apply(("touch", "oak", 2))
        store.watch("elm", 5)
        store.apply(("touch", "oak", 1))
        store.undo()
        return store

    def test_a_clone_has_all_that_the_store_has(self):
        store = self.used_store()
        clone = store.clone()
        self.assertIs(type(clone), Store)
        self.assertIsNot(clone, store)
        self.assertEqual(clone, store)
        self.assertEqual(state_of(clone), state_of(store))
        store.apply(("touch", "oak", 3))
        store.apply(("touch", "oak", 1))
        clone.apply(("touch", "oak", 3))
        clone.apply(("touch", "oak", 1))
        self.assertEqual(store.news(), [(1, 0)])
        self.assertEqual(clone.news(), [(1, 0)])
        self.assertEqual([store.watch("oak", 1), clone.watch("oak", 1)], [4, 4])

    def test_afterwards_both_are_independent(self):
        def use(store):
            store.redo()
            store.undo()
            store.apply_all([("drop", "elm"), ("touch", "oak", 3), ("new", "ash", (1, 2))])
            store.news()
            store.watch("oak", 3)
            store.unwatch(1)
            store.undo()
            store.undo()

        for first in (True, False):
            store = self.used_store()
            clone = store.clone()
            changed, kept = (store, clone) if first else (clone, store)
            before = state_of(kept)
            use(changed)
            self.assertNotEqual(state_of(changed), before)
            self.assertEqual(state_of(kept), before)

    def test_the_clone_of_an_empty_store(self):
        store = Store()
        clone = store.clone()
        clone.apply(("new", "oak", ()))
        clone.watch("oak", 1)
        self.assertEqual([len(store), store.steps(), store.watched(), store.watch("a", 1)], [0, (0, 0), [], 1])


class RandomWatches(unittest.TestCase):

    def test_against_a_dict_of_values(self):
        rng = random.Random(61)
        told_something = 0
        for _ in range(30):
            store, watches, told, number = Store(), {}, {}, 0

            def value(name, key):
                tree = store.shape_of(name) if name in store.names() else ()
                return len(trees_above(tree, key)) if key in tree else None

            for _ in range(80):
                word = rng.choice(("apply", "apply", "undo", "redo", "watch", "unwatch", "news", "clone"))
                done, undone = store.steps()
                if word == "apply":
                    name, key = rng.choice(("oak", "elm")), rng.randrange(5)
                    present = name in store.names()
                    inside = present and key in store.shape_of(name)
                    if not present:
                        store.apply(("new", name, rng.sample(range(5), 4)))
                    elif rng.random() < 0.2:
                        store.apply(("drop", name))
                    else:
                        store.apply((rng.choice(("touch", "remove")) if inside else "insert", name, key))
                elif word == "undo" and done:
                    store.undo()
                elif word == "redo" and undone:
                    store.redo()
                elif word == "watch" and len(watches) < 6:
                    number += 1
                    watches[number] = (rng.choice(("oak", "elm", "ash")), rng.randrange(5))
                    self.assertEqual(store.watch(*watches[number]), number)
                    told[number] = value(*watches[number])
                elif word == "unwatch" and watches:
                    gone = rng.choice(list(watches))
                    store.unwatch(gone)
                    del watches[gone]
                elif word == "news":
                    expected = [(at, value(*watches[at])) for at in watches if value(*watches[at]) != told[at]]
                    self.assertEqual(store.news(), expected)
                    told.update(expected)
                    told_something += len(expected)
                elif word == "clone":
                    store = store.clone()
                self.assertEqual(store.watched(), [(at, *watches[at], value(*watches[at])) for at in watches])
        self.assertGreater(told_something, 60)


def trees_above(shape, key):
    """The keys above a key of a shape, read off a nested tree."""
    tree = None
    for other in shape:
        tree = trees.insert_leaf(tree, other)
    return [above for node, above in trees.places(tree) if node[0] == key][0]


if __name__ == "__main__":
    unittest.main()
