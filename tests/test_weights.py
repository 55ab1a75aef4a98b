"""Mean costs and best fixed shapes, compared with sums of fractions and with all shapes."""

import copy
import itertools
import math
import random
import unittest
from fractions import Fraction

from touchtrees.errors import BadWeight, NoKey, TooManyKeys
from touchtrees.weights import MAX_WEIGHT, MAX_WEIGHTED, best_fixed, mean_cost, weighted_depth

import trees
from logs import TWELVE
from refusals import RefusalCase

KEYS = [-9, -4, -1, 0, 2, 3, 8, 11]


def chain(keys, *, weights=None):
    """What weighted_depth returns for one shape over the keys."""
    return weighted_depth(tuple(keys), weights=weights)


QUESTIONS = (mean_cost, best_fixed, chain)


def random_weights(rng, keys, greatest):
    """A dict with weights of some of the keys, in some order."""
    chosen = rng.sample(keys, rng.randrange(len(keys) + 1))
    return {key: rng.randrange(1, greatest + 1) for key in chosen}


def samples(many):
    """Pairs (keys, weights) over up to so many keys, weights also None and empty."""
    rng = random.Random(50)
    found = [([], None), ([], {}), ([5], {5: 1000})]
    for size in range(many + 1):
        keys = KEYS[:size]
        found += [(keys, None), (keys, {}), (keys, dict.fromkeys(keys, 1000)), (keys, dict.fromkeys(keys, 7))]
        found += [(keys, random_weights(rng, keys, greatest)) for greatest in (2, 3, 10, 1000) for _ in range(3)]
    return found


def heavy(keys, weights):
    return {key: (weights or {}).get(key, 1) for key in keys}


def sum_over_pairs(keys, weights):
    """The mean cost as a sum over all pairs of different keys, with probabilities as fractions."""
    total = sum(heavy(keys, weights).values())
    chances = {key: Fraction(worth, total) for key, worth in heavy(keys, weights).items()}
    return sum(
        (chances[below] * chances[above] / sum(
            chances[key] for key in keys if min(above, below) <= key <= max(above, below))
         for above, below in itertools.permutations(keys, 2)), Fraction(0))


def sum_over_orders(keys, weights):
    """The mean cost as a sum over all orders of last touches, each with its chance in the limit."""
    total = sum(heavy(keys, weights).values())
    chances = {key: Fraction(worth, total) for key, worth in heavy(keys, weights).items()}
    mean = Fraction(0)
    for recent in itertools.permutations(keys):
        chance, rest = Fraction(1), Fraction(1)
        tree = None
        for key in recent:
            chance *= chances[key] / rest
            rest -= chances[key]
            tree = trees.insert_leaf(tree, key)
        mean += chance * sum(chances[node[0]] * len(above) for node, above in trees.places(tree))
    return mean


def depth_in(tree, weights, keys):
    return sum(heavy(keys, weights)[node[0]] * len(above) for node, above in trees.places(tree))


class MeanCost(RefusalCase):

    def test_limits(self):
        self.assertEqual([MAX_WEIGHT, MAX_WEIGHTED], [1000, 12])

    def test_example(self):
        self.assertEqual(mean_cost([1, 2], weights={2: 3}), (3, 8))

    def test_no_keys_and_one_key(self):
        for keys in ([], (), [7], (7,)):
            for weights in (None, {}):
                self.assertEqual(mean_cost(keys, weights=weights), (0, 1))
            self.assertEqual(mean_cost(keys), (0, 1))
        self.assertEqual(mean_cost([7], weights={7: 1000}), (0, 1))

    def test_equal_weights(self):
        self.assertEqual([mean_cost([1, 2]), mean_cost([1, 2, 3])], [(1, 2), (8, 9)])
        for size in range(13):
            keys = TWELVE[:size]
            for worth in (1, 2, 1000):
                self.assertEqual(mean_cost(keys, weights=dict.fromkeys(keys, worth)), mean_cost(keys))

    def check(self, keys, weights, expected):
        pair = mean_cost(keys, weights=weights)
        self.assertIs(type(pair), tuple)
        self.assertEqual(pair, (expected.numerator, expected.denominator))
        self.assertEqual(math.gcd(*pair), 1)
        self.assertGreater(pair[1], 0)

    def test_against_a_sum_of_fractions(self):
        for keys, weights in samples(8):
            self.check(keys, weights, sum_over_pairs(keys, weights))

    def test_against_the_chances_of_all_orders_of_last_touches(self):
        for keys, weights in samples(4):
            self.check(keys, weights, sum_over_orders(keys, weights))

    def test_every_pair_of_weights_of_two_keys(self):
        for one in (1, 2, 3, 500, 999, 1000):
            for other in (1, 2, 3, 500, 999, 1000):
                self.check([1, 2], {1: one, 2: other}, Fraction(2 * one * other, (one + other) ** 2))

    def test_twelve_keys(self):
        rng = random.Random(51)
        for weights in (None, {TWELVE[3]: 1000}, dict.fromkeys(TWELVE[::2], 1000), random_weights(rng, TWELVE, 1000)):
            self.check(TWELVE, weights, sum_over_pairs(TWELVE, weights))


class WeightedDepth(RefusalCase):

    def test_example(self):
        self.assertEqual(weighted_depth((4, 2, 6, 5), weights={5: 10}), 22)

    def test_against_all_shapes(self):
        for keys, weights in samples(6):
            for tree in trees.all_trees(keys):
                self.assertEqual(weighted_depth(trees.preorder(tree), weights=weights), depth_in(tree, weights, keys))

    def test_no_keys_and_one_key(self):
        for shape in ((), (7,)):
            self.assertEqual([weighted_depth(shape), weighted_depth(shape, weights={})], [0, 0])
        self.assertEqual(weighted_depth((7,), weights={7: 1000}), 0)

    def test_twelve_keys(self):
        self.assertEqual(weighted_depth(tuple(TWELVE)), 66)
        self.assertEqual(weighted_depth(tuple(TWELVE[::-1]), weights={TWELVE[0]: 1000}), 55 + 11000)


class BestFixed(RefusalCase):

    def test_examples(self):
        self.assertEqual(best_fixed([1, 2, 3]), ((2, 1, 3), 2))
        self.assertEqual(best_fixed([1, 2, 3], weights={1: 5, 3: 7}), ((3, 1, 2), 7))

    def test_against_all_shapes(self):
        several = 0
        for size in range(9):
            everything = [(tree, trees.preorder(tree)) for tree in trees.all_trees(KEYS[:size])]
            for keys, weights in samples(8):
                if len(keys) == size and keys == KEYS[:size]:
                    depths = [(depth_in(tree, weights, keys), shape) for tree, shape in everything]
                    depth, shape = min(depths)
                    found = best_fixed(keys, weights=weights)
                    self.assertEqual(found, (shape, depth))
                    self.assertEqual([type(found), type(found[0])], [tuple, tuple])
                    several += len([one for one, other in depths if one == depth]) > 1
        self.assertGreater(several, 30)

    def test_the_least_tuple_of_several_best_shapes(self):
        self.assertEqual(best_fixed([1, 2]), ((1, 2), 1))
        self.assertEqual(best_fixed([1, 2, 3, 4]), ((2, 1, 3, 4), 4))
        self.assertEqual(best_fixed([-2, -1], weights={-2: 6, -1: 6}), ((-2, -1), 6))

    def test_no_keys(self):
        for keys in ([], ()):
            self.assertEqual([best_fixed(keys), best_fixed(keys, weights={})], [((), 0), ((), 0)])

    def test_up_to_twelve_keys(self):
        rng = random.Random(52)
        for size in (9, 10, 11, 12):
            keys = TWELVE[:size]
            for weights in (None, random_weights(rng, keys, 5), random_weights(rng, keys, 1000)):
                shape, depth = best_fixed(keys, weights=weights)
                self.assertEqual(sorted(shape), keys)
                self.assertEqual(weighted_depth(shape, weights=weights), depth)
                for _ in range(200):
                    self.assertGreaterEqual(depth_in(trees.random_tree(rng, keys), weights, keys), depth)
        self.assertEqual(best_fixed(list(range(1, 8))), ((4, 2, 1, 3, 6, 5, 7), 10))
        self.assertEqual(best_fixed(TWELVE)[1], 25)


class WeightErrors(RefusalCase):

    def assert_no_weights(self, error, worth, keys, weights):
        for question in QUESTIONS:
            given = copy.deepcopy(weights)
            self.assert_refused(error, worth, question, keys, weights=given)
            self.assert_refused(error, worth, question, tuple(keys), weights=given)
            self.assertEqual(given, weights)

    def test_too_many_keys(self):
        for many in (13, 14, 40):
            self.assert_no_weights(TooManyKeys, 12, list(range(many)), None)
            self.assert_no_weights(TooManyKeys, 12, list(range(many)), {99: 0, 3: 0})

    def test_the_least_integer_that_is_no_key(self):
        self.assert_no_weights(NoKey, 3, [1, 2], {9: 1, 3: 1, 1: 1})
        self.assert_no_weights(NoKey, -10 ** 30, [1, 2], {10 ** 30: 1, -10 ** 30: 1})
        self.assert_no_weights(NoKey, 0, [], {0: 1, 5: 1})
        self.assert_no_weights(NoKey, 3, [1, 2], {1: 0, 3: 1, 2: 1001})
        self.assert_no_weights(NoKey, 3, [1, 2], {1: 1, 3: -5})

    def test_the_least_key_whose_weight_is_out_of_bounds(self):
        for worth in (-10 ** 30, -1, 0, 1001, 10 ** 30):
            self.assert_no_weights(BadWeight, 2, [1, 2, 3], {3: worth, 2: worth, 1: 1000})
            self.assert_no_weights(BadWeight, 1, [1, 2, 3], {3: 5, 2: worth, 1: worth})
            self.assert_no_weights(BadWeight, 3, [1, 2, 3], {3: worth})
        for question in QUESTIONS:
            self.assertIsNotNone(question([1, 2, 3], weights={1: 1, 2: 1000}))


class Arguments(RefusalCase):

    def test_none_and_an_empty_dict_are_the_same(self):
        for question in QUESTIONS:
            for keys in (KEYS, TWELVE):
                self.assertEqual(question(keys), question(keys, weights={}))
                self.assertEqual(question(keys), question(keys, weights=None))
                self.assertEqual(question(keys), question(keys, weights=dict.fromkeys(keys, 1)))

    def test_arguments_are_not_modified_and_tuples_may_be_passed(self):
        for keys, weights in samples(5):
            given = copy.deepcopy((keys, weights))
            for question in QUESTIONS:
                answer = question(given[0], weights=given[1])
                self.assertEqual(question(tuple(keys), weights=weights), answer)
            self.assertEqual(given, (keys, weights))
            if weights:
                self.assertEqual(list(given[1]), list(weights))

    def test_the_order_in_the_dict_does_not_matter(self):
        weights = {8: 3, -9: 4, 2: 10, 0: 7}
        for question in QUESTIONS:
            self.assertEqual(question(KEYS, weights=weights), question(KEYS, weights=dict(sorted(weights.items()))))

    def test_keywords(self):
        self.assertEqual(mean_cost(weights={2: 3}, keys=[1, 2]), (3, 8))
        self.assertEqual(weighted_depth(weights={5: 10}, shape=(4, 2, 6, 5)), 22)
        self.assertEqual(best_fixed(weights={1: 5, 3: 7}, keys=[1, 2, 3]), ((3, 1, 2), 7))
        for question in (mean_cost, weighted_depth, best_fixed):
            with self.assertRaises(TypeError):
                question((1, 2), {1: 1})


if __name__ == "__main__":
    unittest.main()
