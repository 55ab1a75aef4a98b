"""Spared keys, cores and effects of histories, compared with all nested trees over short lists."""

import copy
import itertools
import random
import unittest

from touchtrees.effects import core_shape, difference_holds, effect_difference, spared_keys
from touchtrees.errors import BadStep, NoKey, TooLong
from touchtrees.histories import last_touches, top_shape
from touchtrees.structure import children_of

import samples
import trees
from refusals import RefusalCase
from samples import repeat

GREAT = 10 ** 30
LISTS = ([5], [-1, 0], [-3, 0, 4], [-7, -2, 0, 5])


def effect(history, keys):
    """The trees that all trees over a list become, by touches one by one."""
    touches = samples.written_out(history)
    return [trees.touched_all(tree, touches)[0] for tree in trees.all_trees(list(keys))]


def orders_over(keys):
    """All lists of different keys of a list."""
    return [list(order) for many in range(len(keys) + 1) for order in itertools.permutations(keys, many)]


def without(steps, spared):
    """The steps without the touches of some keys."""
    return [
        ("repeat", step[1], without(step[2], spared)) if isinstance(step, tuple) else step
        for step in steps if step not in spared]


def pairs_of_histories():
    """Triples (one, other, keys): many pairs of histories over short lists."""
    rng = random.Random(12)
    found = []
    for keys in LISTS[:3]:
        found += [(one, other, keys) for one in orders_over(keys) for other in orders_over(keys)]
    four = orders_over(LISTS[3])
    found += [(one, other, LISTS[3]) for one in four for other in rng.sample(four, 8)]
    for keys in LISTS + ([1, 2, 3, 4, 5],):
        for one, other in zip(
                samples.random_histories(rng, keys, 20), samples.random_histories(rng, keys, 20)):
            found += [(one, other, keys), (one, list(one), keys), (one, without(one, spared_keys(one, keys)), keys)]
    return found


class SparedKeysAndCores(RefusalCase):

    def test_examples(self):
        self.assertEqual(spared_keys([5, 4, 6], [4, 5, 6]), [5])
        self.assertEqual(core_shape([5, 4, 6], [4, 5, 6]), (6, 4))

    def check_against_the_definition(self, history, keys):
        touches = samples.written_out(history)
        recent = samples.last_first(touches)
        top = top_shape(history)
        expected = []
        for at, key in enumerate(keys):
            beside = [keys[other] for other in (at - 1, at + 1) if 0 <= other < len(keys)]
            touched = all(other in recent for other in beside + [key])
            if touched and children_of(top, key) == (None, None):
                expected.append(key)
        given = copy.deepcopy(history)
        found = spared_keys(given, keys)
        self.assertEqual(found, expected)
        self.assertIs(type(found), list)
        core = core_shape(given, keys)
        self.assertEqual(core, tuple(key for key in top if key not in expected))
        self.assertIs(type(core), tuple)
        self.assertEqual(given, history)

    def test_against_the_definition(self):
        for keys in LISTS:
            for history in orders_over(keys):
                self.check_against_the_definition(history, keys)
        rng = random.Random(13)
        for many in (1, 2, 5, 12, 39, 40):
            keys = sorted(rng.sample(range(-10 ** 9, 10 ** 9 + 1), many))
            for history in samples.random_histories(rng, keys, 20):
                self.check_against_the_definition(history, keys)
            for touched in (2, many // 2, many - 1, many):
                # Few of the keys, nearly all of them, and all of them.
                if 0 <= touched <= many:
                    self.check_against_the_definition(rng.sample(keys, touched), keys)

    def test_the_effect_without_the_spared_touches(self):
        for keys in LISTS:
            for history in orders_over(keys):
                spared = spared_keys(history, keys)
                self.assertEqual(effect(without(history, spared), keys), effect(history, keys))
                self.assertEqual(core_shape(without(history, spared), keys), core_shape(history, keys))

    def test_the_effect_is_the_same_if_and_only_if_the_cores_are_equal(self):
        for keys in LISTS:
            found = {}
            for history in orders_over(keys):
                found.setdefault(core_shape(history, keys), []).append(effect(history, keys))
            self.assertTrue(all(group.count(group[0]) == len(group) for group in found.values()))
            firsts = [group[0] for group in found.values()]
            self.assertTrue(all(one != other for one, other in itertools.combinations(firsts, 2)))

    def test_the_first_and_the_last_key_have_one_neighbour_only(self):
        keys = [1, 2, 3, 4, 5]
        self.assertEqual(spared_keys([1, 2], keys), [1])
        self.assertEqual(spared_keys([5, 4], keys), [5])
        self.assertEqual(spared_keys([2, 1], keys), [])
        self.assertEqual(spared_keys([3, 2], keys), [])
        self.assertEqual(spared_keys([1, 5, 3, 2, 4], keys), [1, 3, 5])
        self.assertEqual(spared_keys([3, 2, 4], keys), [3])
        self.assertEqual(spared_keys([3, 2, 4, 3], keys), [])

    def test_a_list_of_one_key(self):
        for keys in ([7], (7,), [0]):
            history = [keys[0], repeat(GREAT, keys[0])]
            self.assertEqual(spared_keys(history, keys), list(keys))
            self.assertEqual(core_shape(history, keys), ())
            self.assertEqual([spared_keys([], keys), core_shape([], keys)], [[], ()])

    def test_rounds_four_deep_with_great_counts(self):
        keys = [1, 2, 3, 4]
        history = [repeat(GREAT, 2, repeat(GREAT, 1, repeat(GREAT, 3, repeat(GREAT, 4, 1))))]
        self.assertEqual(last_touches(history), [1, 4, 3, 2])
        self.assertEqual(spared_keys(history, keys), [2])
        self.assertEqual(core_shape(history, keys), (1, 4, 3))
        self.assertEqual(spared_keys([repeat(0, 1, 2, 3, 4)], keys), [])

    def test_tuples_in_place_of_lists(self):
        for keys in LISTS:
            for history in orders_over(keys):
                self.assertEqual(spared_keys(tuple(history), tuple(keys)), spared_keys(history, keys))
                self.assertEqual(core_shape(tuple(history), tuple(keys)), core_shape(history, keys))

    def test_errors(self):
        for question in (spared_keys, core_shape):
            self.assert_refused(BadStep, 1, question, [9, 10 ** 10], [1, 2])
            self.assert_refused(TooLong, 100, question, [9] * 101, [1, 2])
            self.assert_refused(NoKey, 4, question, [9, 1, 4, 8], [1, 2, 5])
            self.assert_refused(NoKey, -3, question, [repeat(2, 9, repeat(GREAT, -3))], [1, 2, 5])
            self.assert_refused(NoKey, 0, question, [0], [1])
            self.assertIsNotNone(question([1, repeat(0, 9, 4)], [1, 2, 5]))

    def test_the_list_is_a_new_one(self):
        history, keys = [5, 4, 6], [4, 5, 6]
        spared_keys(history, keys).append(9)
        self.assertEqual(spared_keys(history, keys), [5])
        self.assertEqual([history, keys], [[5, 4, 6], [4, 5, 6]])
        spared_keys([5], [5]).append(9)
        self.assertEqual(spared_keys(keys=[5], history=[5]), [5])
        self.assertEqual(core_shape(keys=[4, 5], history=[4]), (4,))

    def test_a_list_that_is_somewhat_too_long_is_no_error(self):
        keys = list(range(41))
        self.assertEqual(core_shape(keys, keys), tuple(range(40, 0, -1)))
        self.assertEqual(spared_keys(keys, keys), [0])
        triple = effect_difference(keys, [], keys)
        self.assertIs(difference_holds(keys, [], keys, triple), True)


class EffectDifference(RefusalCase):

    def test_example(self):
        self.assertIsNone(effect_difference([5, 4, 6], [4, 6], [4, 5, 6]))

    def test_against_all_shapes(self):
        for one, other, keys in pairs_of_histories():
            answer = effect_difference(one, other, keys)
            if effect(one, keys) == effect(other, keys):
                self.assertIsNone(answer)
            else:
                self.check_triple(one, other, keys, answer)
            self.assertEqual(answer is None, core_shape(one, keys) == core_shape(other, keys))

    def check_triple(self, one, other, keys, triple):
        shape, first, second = triple
        self.assertEqual([type(part) for part in (triple, shape, first, second)], [tuple, tuple, int, int])
        start = [tree for tree in trees.all_trees(list(keys)) if trees.preorder(tree) == shape]
        self.assertEqual(len(start), 1)
        ends = [trees.touched_all(start[0], samples.written_out(history))[0] for history in (one, other)]
        above = [(first, second) in trees.pairs_above(end) for end in ends]
        self.assertEqual(sorted(above), [False, True])
        self.assertIs(difference_holds(one, other, keys, triple), True)
        self.assertIs(difference_holds(other, one, keys, triple), True)

    def test_both_orders_of_the_histories(self):
        for one, other, keys in pairs_of_histories()[::5]:
            forwards, backwards = effect_difference(one, other, keys), effect_difference(other, one, keys)
            self.assertEqual(forwards is None, backwards is None)
            if backwards is not None:
                self.assertIs(difference_holds(one, other, keys, backwards), True)

    def test_a_single_touch_against_none(self):
        self.assertIsNone(effect_difference([3], [], [3]))
        for keys in ([1, 2], [1, 2, 3], list(range(40))):
            for key in keys:
                triple = effect_difference([key], [repeat(0, key)], keys)
                self.assertIs(difference_holds([key], [], keys, triple), True)

    def test_lists_of_forty_keys(self):
        rng = random.Random(14)
        keys = sorted(rng.sample(range(-10 ** 9, 10 ** 9), 40))
        for one in samples.random_histories(rng, keys, 25) + [rng.sample(keys, many) for many in (20, 38, 39, 40)]:
            other = without(one, spared_keys(one, keys))
            self.assertIsNone(effect_difference(one, other, keys))
            changed = one + [rng.choice(keys)]
            triple = effect_difference(one, changed, keys)
            self.assertEqual(triple is None, core_shape(one, keys) == core_shape(changed, keys))
            if triple is not None:
                self.assertIs(difference_holds(one, changed, keys, triple), True)

    def test_repeated_calls_and_tuples(self):
        for one, other, keys in pairs_of_histories()[::7]:
            given = copy.deepcopy((one, other, keys))
            answer = effect_difference(*given)
            self.assertEqual(given, (one, other, keys))
            self.assertEqual(effect_difference(one, other, keys), answer)
            tuples = samples.with_tuples(one), samples.with_tuples(other), tuple(keys)
            self.assertEqual(effect_difference(*tuples), answer)
            self.assertEqual(effect_difference(keys=keys, other=other, one=one), answer)

    def refusals_of_both(self):
        """Pairs of a question over two histories and their list, for both functions."""
        return (
            effect_difference,
            lambda one, other, keys: difference_holds(one, other, keys, ((1, 2), 1, 2)),
            lambda one, other, keys: difference_holds(one, other, keys, ((), 10 ** 30, -5)))

    def test_errors(self):
        for question in self.refusals_of_both():
            self.assert_refused(BadStep, 0, question, [10 ** 10], [1], [1, 2])
            self.assert_refused(BadStep, 0, question, [1], [10 ** 10], [1, 2])
            self.assert_refused(TooLong, 100, question, [1], [1] * 101, [1, 2])
            self.assert_refused(NoKey, 3, question, [1, 5, 3], [1], [1, 2])
            self.assert_refused(NoKey, 3, question, [1], [1, 5, 3], [1, 2])

    def test_the_errors_of_one_come_before_those_of_other(self):
        for question in self.refusals_of_both():
            self.assert_refused(BadStep, 1, question, [9, 10 ** 10], [9, 9, 10 ** 10], [1, 2])
            self.assert_refused(NoKey, 9, question, [9], [10 ** 10], [1, 2])
            self.assert_refused(NoKey, 9, question, [9], [8], [1, 2])
            self.assert_refused(NoKey, 9, question, [9], [1] * 101, [1, 2])
            self.assert_refused(BadStep, 1, question, [1], [8, 10 ** 10], [1, 2])


class DifferenceHolds(RefusalCase):

    def test_example(self):
        answers = [
            difference_holds([1], [2], [1, 2], ((1, 2), 1, 2)), difference_holds([1], [1], [1, 2], ((1, 2), 1, 2))]
        self.assertEqual(answers, [True, False])

    def test_every_triple_over_short_lists(self):
        rng = random.Random(15)
        for keys in ([4], [-1, 0], [-3, 0, 4]):
            orders = orders_over(keys)
            for one, other in itertools.product(orders, rng.sample(orders, min(8, len(orders)))):
                for tree in trees.all_trees(keys):
                    self.check_pairs(one, other, keys, tree)

    def check_pairs(self, one, other, keys, tree):
        above = [trees.pairs_above(trees.touched_all(tree, touches)[0]) for touches in (one, other)]
        for first, second in itertools.product(keys + [2, 10 ** 30], repeat=2):
            expected = ((first, second) in above[0]) != ((first, second) in above[1])
            paper = (trees.preorder(tree), first, second)
            self.assertIs(difference_holds(one, other, keys, paper), expected)

    def test_tuples_that_are_no_shapes_over_the_list(self):
        keys = [1, 2, 3, 4]
        one, other = [1, 4], [4, 1]
        self.assertIs(difference_holds(one, other, keys, ((1, 2, 3, 4), 1, 4)), True)
        shapes = [trees.preorder(tree) for tree in trees.all_trees(keys)]
        for row in itertools.permutations(keys):
            self.assertIs(difference_holds(one, other, keys, (row, 1, 4)), row in shapes)
        for row in (
                (), (1, 4), (1, 2, 3), (1, 2, 3, 4, 5), (1, 2, 3, 5), (1, 2, 2, 3, 4), (1, 2, 2, 4), (1, 1, 2, 3, 4),
                (1, 2, 3, 4, 4), (4, 4, 1, 1), (1, 2, 3, 4, 10 ** 30), tuple(range(1, 42)), (1,) * 200):
            self.assertIs(difference_holds(one, other, keys, (row, 1, 4)), False)

    def test_equal_keys_and_keys_that_are_not_in_the_list(self):
        for first, second in ((1, 1), (2, 2), (1, 3), (0, 1), (3, 3), (10 ** 30, 1), (1, -10 ** 30), (7, 8)):
            self.assertIs(difference_holds([1], [2], [1, 2], ((1, 2), first, second)), False)

    def test_none_of_the_arguments_is_changed(self):
        one, other, keys, paper = [1, ("repeat", 2, [2])], [1], [1, 2], ((1, 2), 1, 2)
        given = copy.deepcopy((one, other, keys, paper))
        self.assertIs(difference_holds(*given), True)
        self.assertEqual(given, (one, other, keys, paper))
        self.assertIs(difference_holds((1, ("repeat", 2, (2,))), (1,), (1, 2), paper), True)
        self.assertIs(difference_holds(paper=paper, keys=keys, other=other, one=one), True)


if __name__ == "__main__":
    unittest.main()
