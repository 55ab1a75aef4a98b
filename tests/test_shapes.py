"""Keys, the check of shapes, and build."""

import itertools
import random
import unittest

from touchtrees.errors import BadKey, BadShape, DuplicateKey, TooManyKeys
from touchtrees.shapes import KEY_LIMIT, MAX_KEYS, build, check_shape, is_key, is_shape

import trees

FORTY = tuple(range(1, 41))
NO_KEYS = (-10 ** 30, -10 ** 9 - 1, 10 ** 9 + 1, 10 ** 30)


class ShapeTestCase(unittest.TestCase):

    def assert_refused(self, error, field, worth, function, argument):
        with self.assertRaises(error) as caught:
            function(argument)
        self.assertIs(type(caught.exception), error)
        self.assertEqual(getattr(caught.exception, field), worth, argument)

    def assert_no_shape(self, error, field, worth, shape):
        self.assert_refused(error, field, worth, check_shape, shape)
        self.assertIs(is_shape(shape), False)

    def assert_shape(self, shape):
        self.assertIsNone(check_shape(shape))
        self.assertIs(is_shape(shape), True)


class Keys(unittest.TestCase):

    def test_limits(self):
        self.assertEqual(KEY_LIMIT, 10 ** 9)
        self.assertEqual(MAX_KEYS, 40)

    def test_keys_up_to_both_bounds(self):
        for number in (-10 ** 9, -10 ** 9 + 1, -1, 0, 1, 10 ** 9 - 1, 10 ** 9):
            self.assertIs(is_key(number), True, number)

    def test_no_keys_outside_of_the_bounds(self):
        for number in NO_KEYS:
            self.assertIs(is_key(number), False, number)

    def test_the_argument_may_be_passed_by_keyword(self):
        self.assertIs(is_key(number=3), True)

    def test_example(self):
        self.assertEqual(is_key(10 ** 9 + 1), False)


class Shapes(ShapeTestCase):

    def test_examples(self):
        self.assert_refused(BadShape, "pos", 3, check_shape, (4, 2, 6, 3))
        self.assertEqual([is_shape((4, 2, 1, 3, 6, 5)), is_shape((2, 2))], [True, False])

    def test_shapes_of_all_sizes(self):
        for tree in trees.sample_trees():
            self.assert_shape(trees.preorder(tree))
        rng = random.Random(1)
        for size in range(41):
            keys = sorted(rng.sample(range(-10 ** 9, 10 ** 9 + 1), size))
            self.assert_shape(trees.preorder(trees.random_tree(rng, keys)))

    def test_keys_at_both_bounds(self):
        self.assert_shape((10 ** 9, -10 ** 9, 0))
        self.assert_shape((-10 ** 9, 10 ** 9, 0))

    def test_every_short_tuple_against_all_trees(self):
        keys = [1, 2, 3, 4, 5]
        shapes = {trees.preorder(tree) for tree in trees.trees_over_subsets(keys)}
        for size in range(6):
            for row in itertools.product(keys, repeat=size):
                wrong = [pos for pos in range(size) if row[:pos + 1] not in shapes]
                if wrong:
                    self.assert_no_shape(BadShape, "pos", wrong[0], row)
                else:
                    self.assert_shape(row)

    def test_a_key_moved_doubled_or_changed_in_a_large_shape(self):
        self.assert_no_shape(BadShape, "pos", 39, FORTY[1:] + (1,))
        self.assert_shape(FORTY[:10] + (12, 11) + FORTY[12:])
        self.assert_no_shape(BadShape, "pos", 12, FORTY[:10] + (12, 13, 11) + FORTY[13:])
        self.assert_no_shape(BadShape, "pos", 39, FORTY[:39] + (39,))
        self.assert_no_shape(BadShape, "pos", 1, (7, 7) + FORTY[7:40])
        self.assert_no_shape(BadShape, "pos", 20, FORTY[:20] + (3,) + FORTY[21:])
        descending = FORTY[::-1]
        self.assert_shape(descending[1:])
        self.assert_no_shape(BadShape, "pos", 39, descending[:39] + (40,))
        self.assert_no_shape(BadShape, "pos", 39, descending[:39] + (2,))
        self.assert_no_shape(BadShape, "pos", 3, (5, 3, 8, 3))
        self.assert_no_shape(BadShape, "pos", 3, (5, 3, 8, 5))
        self.assert_no_shape(BadShape, "pos", 3, (5, 3, 8, 8))

    def test_random_changes_against_insertion(self):
        rng = random.Random(2)
        for tree in trees.sample_trees():
            shape = list(trees.preorder(tree))
            if len(shape) < 6:
                continue
            for _ in range(10):
                row = list(shape)
                row.insert(rng.randrange(len(row)), row.pop(rng.randrange(len(row))))
                if rng.random() < 0.5:
                    row[rng.randrange(len(row))] = rng.choice(trees.beside(shape)[1:-1])
                self.check_against_insertion(tuple(row))

    def check_against_insertion(self, row):
        grown = None
        for pos, key in enumerate(row):
            grown = None if key in row[:pos] else trees.insert_leaf(grown, key)
            if trees.preorder(grown) != row[:pos + 1]:
                self.assert_no_shape(BadShape, "pos", pos, row)
                return
        self.assert_shape(row)

    def test_more_than_forty_integers(self):
        for row in (tuple(range(41)), (1,) * 41, tuple(range(200))):
            self.assert_no_shape(TooManyKeys, "limit", 40, row)

    def test_the_first_integer_that_is_no_key(self):
        for number in NO_KEYS:
            for pos in (0, 7, 39):
                row = FORTY[:pos] + (number,) + FORTY[pos + 1:]
                self.assert_no_shape(BadKey, "key", number, row)
        self.assert_no_shape(BadKey, "key", -10 ** 9 - 2, (1, -10 ** 9 - 2, 10 ** 9 + 1))

    def test_the_order_of_the_errors(self):
        too_many = (10 ** 9 + 1,) + (5,) * 40
        self.assert_no_shape(TooManyKeys, "limit", 40, too_many)
        self.assert_no_shape(BadKey, "key", 10 ** 9 + 1, (2, 2, 1, 10 ** 9 + 1))

    def test_the_argument_may_be_passed_by_keyword(self):
        self.assertIsNone(check_shape(shape=(2, 1)))
        self.assertIs(is_shape(shape=(2, 1)), True)


class Build(ShapeTestCase):

    def test_examples(self):
        self.assertEqual(build([4, 6, 2, 3, 5, 1]), (4, 2, 1, 3, 6, 5))
        self.assert_refused(DuplicateKey, "key", 1, build, [1, 2, 1])

    def test_no_key(self):
        self.assertEqual(build([]), ())
        self.assertEqual(build(()), ())

    def test_ascending_and_descending_order(self):
        for size in (1, 2, 17, 40):
            self.assertEqual(build(list(range(size))), tuple(range(size)))
            self.assertEqual(build(list(range(size))[::-1]), tuple(range(size))[::-1])

    def test_every_order_of_five_keys_against_insertion(self):
        for order in itertools.permutations((-3, 0, 2, 5, 9)):
            self.check_order(list(order))

    def test_random_orders_against_insertion(self):
        rng = random.Random(3)
        for size in range(41):
            self.check_order(rng.sample(range(-10 ** 9, 10 ** 9 + 1), size))
        self.check_order([0, 10 ** 9, -10 ** 9])

    def check_order(self, order):
        grown = None
        for key in order:
            grown = trees.insert_leaf(grown, key)
        given = list(order)
        built = build(given)
        self.assertEqual(built, trees.preorder(grown))
        self.assertIs(type(built), tuple)
        self.assertEqual(given, order)
        self.assertEqual(build(tuple(order)), built)
        self.assertEqual(build(order=given), built)
        self.assert_shape(built)

    def test_the_shape_in_preorder_builds_itself(self):
        for tree in trees.sample_trees():
            shape = trees.preorder(tree)
            self.assertEqual(build(shape), shape)

    def test_forty_and_forty_one_integers(self):
        self.assertEqual(build(FORTY), FORTY)
        for row in (list(range(41)), [1] * 41, tuple(range(41)), [10 ** 9 + 1] * 41):
            self.assert_refused(TooManyKeys, "limit", 40, build, row)

    def test_the_first_integer_that_is_no_key(self):
        for number in NO_KEYS:
            for pos in (0, 20, 39):
                row = list(FORTY)
                row[pos] = number
                self.assert_refused(BadKey, "key", number, build, row)
                self.assert_refused(BadKey, "key", number, build, tuple(row))
        self.assert_refused(BadKey, "key", 10 ** 9 + 2, build, [1, 10 ** 9 + 2, -10 ** 9 - 1])

    def test_the_first_key_that_occurs_earlier(self):
        for first, second in itertools.combinations((0, 1, 20, 38, 39), 2):
            row = list(FORTY)
            row[second] = row[first]
            self.assert_refused(DuplicateKey, "key", row[first], build, row)
            self.assert_refused(DuplicateKey, "key", row[first], build, tuple(row))
        self.assert_refused(DuplicateKey, "key", 2, build, [1, 2, 3, 2, 1])

    def test_the_order_of_the_errors(self):
        self.assert_refused(TooManyKeys, "limit", 40, build, [1, 1, 10 ** 10] + [2] * 38)
        self.assert_refused(BadKey, "key", 10 ** 10, build, [1, 1, 10 ** 10])
        self.assert_refused(BadKey, "key", 10 ** 10, build, [10 ** 10, 10 ** 10])

    def test_a_refused_argument_is_not_changed(self):
        for row in ([1, 2, 1], [3, 10 ** 10], list(range(41))):
            given = list(row)
            with self.assertRaises((TooManyKeys, BadKey, DuplicateKey)):
                build(given)
            self.assertEqual(given, row)


if __name__ == "__main__":
    unittest.main()
