"""Numbers of shapes and of orders, and lists of shapes, compared with all nested trees and all orders."""

import itertools
import math
import random
import unittest

from touchtrees.counts import MAX_LISTED, MAX_SIZE, all_shapes, binomial, count_by_spines, count_orders, count_trees
from touchtrees.errors import BadSize, TooManyKeys
from touchtrees.shapes import build

import trees
from refusals import RefusalCase

BAD_SIZES = (-10 ** 30, -60, -2, -1, 61, 62, 100, 10 ** 30)


class Binomial(unittest.TestCase):

    def test_example(self):
        self.assertEqual([binomial(5, 2), binomial(2, 3)], [10, 0])

    def test_every_size_up_to_two_hundred(self):
        for size in range(201):
            for chosen in range(201):
                self.assertEqual(binomial(size, chosen), math.comb(size, chosen))

    def test_negative_numbers(self):
        for size in (-200, -5, -1, 0, 1, 5, 200):
            for chosen in (-200, -5, -1):
                self.assertEqual(binomial(size, chosen), 0)
        for size in (-200, -5, -1):
            for chosen in (0, 1, 5, 200):
                self.assertEqual(binomial(size, chosen), 0)

    def test_arguments_by_keyword(self):
        self.assertEqual(binomial(chosen=2, size=5), 10)


class CountTrees(RefusalCase):

    def test_limits(self):
        self.assertEqual([MAX_SIZE, MAX_LISTED], [60, 8])

    def test_examples(self):
        self.assertEqual([count_trees(0), count_trees(4)], [1, 14])
        answers = [count_by_spines(3, 2, 2), count_by_spines(3, 1, 2), count_by_spines(0, 0, 0)]
        self.assertEqual(answers, [1, 1, 1])

    def test_every_size_against_the_sum_over_all_roots(self):
        numbers = [1]
        for size in range(1, 61):
            numbers.append(sum(numbers[at] * numbers[size - 1 - at] for at in range(size)))
        self.assertEqual([count_trees(size) for size in range(61)], numbers)

    def test_sizes_outside(self):
        for size in BAD_SIZES:
            self.assert_refused(BadSize, size, count_trees, size)
            for left, right in ((0, 0), (1, 1), (-1, 3), (10 ** 30, 1)):
                self.assert_refused(BadSize, size, count_by_spines, size, left, right)

    def test_spines_against_all_trees(self):
        for size in range(9):
            pairs = [
                (len(trees.spine(tree, 1)), len(trees.spine(tree, 2)))
                for tree in trees.all_trees(list(range(size)))]
            for left in range(-1, size + 2):
                for right in range(-1, size + 2):
                    self.assertEqual(count_by_spines(size, left, right), pairs.count((left, right)))

    def test_spines_of_every_size_against_the_trees_without_the_root(self):
        spines = self.one_spine_numbers()
        for size in range(1, 61):
            for left in range(1, 62):
                for right in (1, 2, 3, 7, 30, size - left, size - left + 1, size - left + 2, 60):
                    expected = 0 if right < 1 else sum(
                        spines[at][left - 1] * spines[size - 1 - at][right - 1] for at in range(size))
                    self.assertEqual(count_by_spines(size, left, right), expected)

    def one_spine_numbers(self):
        """For each size up to 60, the numbers of trees with each length of one spine."""
        rows = [[1] + [0] * 61]
        totals = [1]
        for size in range(1, 61):
            row = [0] * 62
            for at in range(size):
                for length in range(61):
                    row[length + 1] += rows[at][length] * totals[size - 1 - at]
            rows.append(row)
            totals.append(sum(row))
        return rows

    def test_the_sum_over_all_spine_lengths(self):
        for size in range(61):
            total = sum(
                count_by_spines(size, left, right) for left in range(size + 1) for right in range(size + 1))
            self.assertEqual(total, count_trees(size))

    def test_spine_lengths_outside_of_the_bounds(self):
        for size in (0, 1, 2, 5, 60):
            for left, right in (
                    (-1, 1), (1, -1), (-1, -1), (0, 1), (1, 0), (0, size), (size, 0), (size + 1, 1), (1, size + 1),
                    (-3, size + 4), (size + 5, -4), (10 ** 30, 1), (1, 10 ** 30), (-10 ** 30, 10 ** 30 + 2)):
                if (size, left, right) != (0, 0, 0):
                    self.assertEqual(count_by_spines(size, left, right), 0, (size, left, right))
        self.assertEqual([count_by_spines(1, 0, 0), count_by_spines(1, 1, 1), count_by_spines(2, 1, 1)], [0, 1, 0])

    def test_arguments_by_keyword(self):
        self.assertEqual(count_trees(size=3), 5)
        self.assertEqual(count_by_spines(right=2, left=1, size=3), 1)


class CountOrders(unittest.TestCase):

    def test_example(self):
        self.assertEqual(count_orders((4, 2, 1, 3, 6)), 8)

    def test_against_build_over_all_orders(self):
        for size in range(6):
            keys = list(range(-2, 2 * size - 2, 2))
            built = [build(order) for order in itertools.permutations(keys)]
            for tree in trees.all_trees(keys):
                shape = trees.preorder(tree)
                self.assertEqual(count_orders(shape), built.count(shape))

    def test_larger_shapes_against_subtree_sizes(self):
        for tree in trees.sample_trees():
            product = 1
            for node, above in trees.places(tree):
                product *= len(trees.preorder(node))
            shape = trees.preorder(tree)
            self.assertEqual(count_orders(shape) * product, math.factorial(len(shape)))

    def test_the_empty_shape_and_chains(self):
        self.assertEqual(count_orders(()), 1)
        self.assertEqual(count_orders(tuple(range(40))), 1)
        self.assertEqual(count_orders(tuple(range(40))[::-1]), 1)
        self.assertEqual(count_orders((0,) + tuple(range(-1, -20, -1)) + tuple(range(1, 21))), math.comb(39, 19))

    def test_arguments_by_keyword(self):
        self.assertEqual(count_orders(shape=(2, 1, 3)), 2)


class AllShapes(RefusalCase):

    def test_example(self):
        self.assertEqual(all_shapes([1, 2, 3]), [(1, 2, 3), (1, 3, 2), (2, 1, 3), (3, 1, 2), (3, 2, 1)])

    def test_up_to_eight_keys(self):
        rng = random.Random(11)
        for size in range(9):
            for spread in (size, 10 ** 9):
                keys = sorted(rng.sample(range(-spread, spread + 1), size))
                found = all_shapes(keys)
                self.assertIs(type(found), list)
                self.assertEqual(found, sorted(trees.preorder(tree) for tree in trees.all_trees(keys)))
                self.assertEqual(len(set(found)), count_trees(size))
                self.assertEqual(all_shapes(tuple(keys)), found)

    def test_no_key(self):
        self.assertEqual(all_shapes([]), [()])
        self.assertEqual(all_shapes(()), [()])

    def test_nine_keys_and_more(self):
        for many in (9, 10, 40, 200):
            self.assert_refused(TooManyKeys, 8, all_shapes, list(range(many)))
            self.assert_refused(TooManyKeys, 8, all_shapes, tuple(range(many)))

    def test_the_list_is_a_new_one_and_the_argument_is_not_modified(self):
        keys = [1, 2]
        all_shapes(keys).clear()
        self.assertEqual(all_shapes(keys), [(1, 2), (2, 1)])
        all_shapes([]).clear()
        self.assertEqual(all_shapes(keys=[]), [()])
        self.assertEqual(keys, [1, 2])


if __name__ == "__main__":
    unittest.main()
