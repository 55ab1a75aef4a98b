"""What is read off shapes, compared with nested trees."""

import unittest

from touchtrees.errors import NoKey
from touchtrees.structure import (
    all_depths, bounds_of, children_of, depth_of, is_above, mirror, parent_of, parts_of, path_to, restrict, root_of,
    search_path, spine_lengths, subtree_at)

import trees

SAMPLES = [(tree, trees.preorder(tree)) for tree in trees.sample_trees()]
KEY_FUNCTIONS = (path_to, depth_of, parent_of, children_of, bounds_of, subtree_at)
SHAPE_FUNCTIONS = (root_of, parts_of, all_depths, spine_lengths, mirror, restrict)


class Examples(unittest.TestCase):

    def test_examples(self):
        self.assertEqual(root_of((4, 2, 6)), 4)
        self.assertEqual(restrict((4, 2, 1, 3, 6, 5), low=1, high=6), (4, 2, 3, 5))
        self.assertEqual(parts_of((4, 2, 1, 3, 6, 5)), ((2, 1, 3), (6, 5)))
        self.assertEqual(search_path((4, 2, 1, 3, 6), 5), [4, 6])
        self.assertEqual(path_to((4, 2, 1, 3, 6), 3), [4, 2, 3])
        self.assertEqual(depth_of((4, 2, 1, 3, 6), 3), 2)
        self.assertEqual(sorted(all_depths((4, 2, 6, 5)).items()), [(2, 1), (4, 0), (5, 2), (6, 1)])
        self.assertEqual(parent_of((4, 2, 1, 3, 6), 3), 2)
        self.assertEqual(children_of((4, 2, 1, 6), 2), (1, None))
        self.assertEqual(bounds_of((4, 2, 1, 3, 6), 3), (2, 4))
        self.assertEqual(subtree_at((4, 2, 1, 3, 6, 5), 2), (2, 1, 3))
        self.assertEqual([is_above((4, 2, 3), 4, 3), is_above((4, 2, 3), 3, 2)], [True, False])
        self.assertEqual(spine_lengths((4, 2, 1, 3, 6, 5)), (3, 2))
        self.assertEqual(mirror((4, 2, 6, 5)), (-4, -6, -5, -2))

    def test_example_of_a_missing_key(self):
        with self.assertRaises(NoKey) as caught:
            depth_of((4, 2), 3)
        self.assertEqual(caught.exception.key, 3)


class EmptyShape(unittest.TestCase):

    def test_answers_for_the_empty_shape(self):
        self.assertIsNone(root_of(()))
        self.assertEqual(parts_of(()), ((), ()))
        self.assertEqual(search_path((), 5), [])
        self.assertEqual(all_depths(()), {})
        self.assertEqual(spine_lengths(()), (0, 0))
        self.assertEqual(mirror(()), ())
        for bounds in ({}, {"low": 1}, {"high": 1}, {"low": 1, "high": 5}, {"low": 5, "high": 1}):
            self.assertEqual(restrict((), **bounds), ())


class Restriction(unittest.TestCase):

    def check_bounds(self, shape, low, high):
        kept = restrict(shape, low=low, high=high)
        expected = [key for key in sorted(shape) if (low is None or key > low) and (high is None or key < high)]
        self.assertEqual(sorted(kept), expected)
        self.assertEqual([key for key in shape if key in kept], list(kept))
        self.assertIs(type(kept), tuple)

    def test_bounds_that_are_keys_or_lie_beside_them_or_are_crossed_or_left_out(self):
        for tree, shape in SAMPLES:
            if len(shape) > 10:
                continue
            bounds = [None, -10 ** 30, 10 ** 30] + trees.beside(shape)
            for low in bounds:
                for high in bounds:
                    self.check_bounds(shape, low, high)

    def test_bounds_in_large_shapes(self):
        for tree, shape in SAMPLES:
            if len(shape) > 10:
                bounds = [None] + trees.beside(shape)[::7]
                for low in bounds:
                    for high in bounds:
                        self.check_bounds(shape, low, high)

    def test_a_bound_of_zero_is_a_bound(self):
        self.assertEqual(restrict((0, -2, -1, 2, 1), low=0), (2, 1))
        self.assertEqual(restrict((0, -2, -1, 2, 1), high=0), (-2, -1))

    def test_left_out_bounds(self):
        shape = (4, 2, 1, 3, 6, 5)
        self.assertEqual(restrict(shape), shape)
        self.assertEqual(restrict(shape, low=None, high=None), shape)
        self.assertEqual(restrict(shape, low=3), (4, 6, 5))
        self.assertEqual(restrict(shape, high=4), (2, 1, 3))

    def test_crossed_equal_and_neighbouring_bounds(self):
        shape = (4, 2, 1, 3, 6, 5)
        for low, high in ((5, 2), (4, 4), (3, 4), (6, 1), (10, -10)):
            self.assertEqual(restrict(shape, low=low, high=high), ())

    def test_one_key_is_above_another_as_in_the_original_shape(self):
        for tree, shape in SAMPLES:
            if len(shape) != 5:
                continue
            above = {(key, node[0]) for node, keys in trees.places(tree) for key in keys}
            for low in [None] + sorted(shape):
                kept = restrict(shape, low=low, high=max(shape))
                for one in kept:
                    for other in kept:
                        self.assertIs(is_above(kept, one, other), (one, other) in above)

    def test_the_bounds_are_keyword_only(self):
        with self.assertRaises(TypeError):
            restrict((2, 1, 3), 1)
        with self.assertRaises(TypeError):
            restrict((2, 1, 3), 1, 3)

    def test_root_and_parts(self):
        for tree, shape in SAMPLES:
            self.assertEqual(root_of(shape), trees.key_of(tree))
            if tree is not None:
                self.assertEqual(parts_of(shape), (trees.preorder(tree[1]), trees.preorder(tree[2])))

    def test_a_root_of_zero_is_returned(self):
        self.assertEqual(root_of((0, -1, 1)), 0)
        self.assertEqual(parts_of((0, -1, 1)), ((-1,), (1,)))


class PathsAndPlaces(unittest.TestCase):

    def test_every_key_of_every_sample(self):
        for tree, shape in SAMPLES:
            for node, above in trees.places(tree):
                self.check_place(shape, node, above)

    def check_place(self, shape, node, above):
        key, left, right = node
        self.assertEqual(search_path(shape, key), list(above) + [key])
        self.assertEqual(path_to(shape, key), list(above) + [key])
        self.assertEqual(depth_of(shape, key), len(above))
        self.assertEqual(parent_of(shape, key), above[-1] if above else None)
        self.assertEqual(children_of(shape, key), (trees.key_of(left), trees.key_of(right)))
        low = max([other for other in above if other < key], default=None)
        high = min([other for other in above if other > key], default=None)
        self.assertEqual(bounds_of(shape, key), (low, high))
        self.assertEqual(subtree_at(shape, key), trees.preorder(node))

    def test_all_depths(self):
        for tree, shape in SAMPLES:
            expected = {node[0]: len(above) for node, above in trees.places(tree)}
            self.assertEqual(all_depths(shape), expected)

    def test_a_search_for_a_key_that_the_shape_does_not_have(self):
        for tree, shape in SAMPLES:
            for key in set(trees.beside(shape)) - set(shape):
                grown = trees.places(trees.insert_leaf(tree, key))
                expected = [list(above) for node, above in grown if node[0] == key]
                self.assertEqual([search_path(shape, key)], expected)

    def test_the_key_zero_counts_as_parent_child_and_bound(self):
        self.assertEqual(parent_of((0, -1, 1), 1), 0)
        self.assertEqual(children_of((1, 0), 1), (0, None))
        self.assertEqual(children_of((-1, 0), -1), (None, 0))
        self.assertEqual(bounds_of((0, -1, 1), 1), (0, None))
        self.assertEqual(bounds_of((0, -1, 1), -1), (None, 0))

    def test_the_kinds_of_the_answers(self):
        shape = (4, 2, 1, 3, 6, 5)
        kinds = [type(function(shape, 2)) for function in (search_path,) + KEY_FUNCTIONS]
        self.assertEqual(kinds, [list, list, int, int, tuple, tuple, tuple])
        kinds = [type(function(shape)) for function in SHAPE_FUNCTIONS]
        self.assertEqual(kinds, [int, tuple, dict, tuple, tuple, tuple])
        self.assertEqual([type(part) for part in parts_of(shape)], [tuple, tuple])

    def test_no_key(self):
        for tree, shape in SAMPLES:
            for key in set(trees.beside(shape)) - set(shape):
                for function in KEY_FUNCTIONS:
                    with self.assertRaises(NoKey) as caught:
                        function(shape, key)
                    self.assertIs(type(caught.exception), NoKey)
                    self.assertEqual(caught.exception.key, key)

    def test_arguments_by_keyword(self):
        shape = (4, 2, 1, 3, 6, 5)
        for function in (search_path,) + KEY_FUNCTIONS:
            self.assertEqual(function(key=2, shape=shape), function(shape, 2))
        for function in SHAPE_FUNCTIONS:
            self.assertEqual(function(shape=shape), function(shape))
        self.assertIs(is_above(other=1, one=2, shape=shape), True)

    def test_returned_lists_and_dicts_are_new_ones(self):
        shape = (4, 2, 1, 3, 6, 5)
        for function in (search_path, path_to):
            first = function(shape, 3)
            first.clear()
            self.assertEqual(function(shape, 3), [4, 2, 3])
        depths = all_depths(shape)
        depths.clear()
        self.assertEqual(all_depths(shape), {4: 0, 2: 1, 1: 2, 3: 2, 6: 1, 5: 2})


class Above(unittest.TestCase):

    def test_every_pair_of_keys(self):
        for tree, shape in SAMPLES:
            for node, above in trees.places(tree):
                for one in shape[::1 if len(shape) < 10 else 5]:
                    self.assertIs(is_above(shape, one, node[0]), one in above)

    def test_a_key_and_itself(self):
        for key in (4, 2, 1, 6):
            self.assertIs(is_above((4, 2, 1, 6), key, key), False)

    def test_keys_of_different_subtrees(self):
        for one, other in ((2, 6), (6, 2), (1, 5), (5, 1), (1, 3), (3, 6)):
            self.assertIs(is_above((4, 2, 1, 3, 6, 5), one, other), False)

    def test_no_key_for_one_then_for_other(self):
        for shape, one, other, missing in (
                ((4, 2), 3, 4, 3), ((4, 2), 4, 3, 3), ((4, 2), 3, 5, 3), ((4, 2), 5, 3, 5), ((4, 2), 7, 7, 7),
                ((), 1, 2, 1)):
            with self.assertRaises(NoKey) as caught:
                is_above(shape, one, other)
            self.assertEqual(caught.exception.key, missing)


class SpinesAndMirror(unittest.TestCase):

    def test_spine_lengths(self):
        for tree, shape in SAMPLES:
            expected = (len(trees.spine(tree, 1)), len(trees.spine(tree, 2)))
            self.assertEqual(spine_lengths(shape), expected)

    def test_mirror(self):
        for tree, shape in SAMPLES:
            self.assertEqual(mirror(shape), trees.preorder(trees.mirrored(tree)))

    def test_the_mirror_of_the_mirror(self):
        for tree, shape in SAMPLES:
            self.assertEqual(mirror(mirror(shape)), shape)

    def test_the_mirror_exchanges_the_spines(self):
        for tree, shape in SAMPLES:
            self.assertEqual(spine_lengths(mirror(shape)), spine_lengths(shape)[::-1])


if __name__ == "__main__":
    unittest.main()
