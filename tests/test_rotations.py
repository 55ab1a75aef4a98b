"""Rotations, compared with nested trees."""

import unittest

from touchtrees.errors import AtRoot, NoKey
from touchtrees.rotations import rotate, rotation_steps
from touchtrees.structure import parent_of, root_of

import trees
from refusals import RefusalCase

SAMPLES = [(tree, trees.preorder(tree)) for tree in trees.sample_trees()]


class Rotate(RefusalCase):

    def test_examples(self):
        self.assertEqual(rotate((4, 2, 1, 3, 6), 2), (2, 1, 4, 3, 6))
        self.assert_refused(AtRoot, 4, rotate, (4, 2), 4)

    def test_left_and_right_children(self):
        self.assertEqual(rotate((4, 2, 1, 3, 6), 6), (6, 4, 2, 1, 3))
        self.assertEqual(rotate((4, 2, 1, 3, 6), 1), (4, 1, 2, 3, 6))
        self.assertEqual(rotate((4, 2, 1, 3, 6), 3), (4, 3, 2, 1, 6))
        self.assertEqual(rotate((2, 1), 1), (1, 2))
        self.assertEqual(rotate((1, 2), 2), (2, 1))

    def test_every_key_of_every_sample_against_nested_trees(self):
        for tree, shape in SAMPLES:
            for key in shape[1:]:
                answer = rotate(shape, key)
                self.assertEqual(answer, trees.preorder(trees.rotated(tree, key)))
                self.assertIs(type(answer), tuple)

    def test_the_parent_rotated_back_restores_the_shape(self):
        for tree, shape in SAMPLES:
            for key in shape[1:]:
                self.assertEqual(rotate(rotate(shape, key), parent_of(shape, key)), shape)

    def test_one_rotation_after_another(self):
        for tree, shape in SAMPLES:
            for at in range(1, len(shape)):
                key = sorted(shape)[at * 7 % len(shape)]
                if root_of(shape) != key:
                    tree = trees.rotated(tree, key)
                    shape = rotate(shape, key)
                    self.assertEqual(shape, trees.preorder(tree))

    def test_the_key_zero(self):
        self.assertEqual(rotate((1, 0), 0), (0, 1))
        self.assertEqual(rotate((0, 1), 1), (1, 0))
        self.assertEqual(rotate((2, 0, -1, 1), -1), (2, -1, 0, 1))

    def test_the_root_and_the_only_key(self):
        for tree, shape in SAMPLES:
            if shape:
                self.assert_refused(AtRoot, shape[0], rotate, shape, shape[0])
        for key in (0, 7, -10 ** 9, 10 ** 9):
            self.assert_refused(AtRoot, key, rotate, (key,), key)

    def test_no_key_comes_first(self):
        for tree, shape in SAMPLES:
            for key in set(trees.beside(shape)) - set(shape):
                self.assert_refused(NoKey, key, rotate, shape, key)
        self.assert_refused(NoKey, 3, rotate, (), 3)
        self.assert_refused(NoKey, 10 ** 30, rotate, (1,), 10 ** 30)

    def test_arguments_by_keyword(self):
        self.assertEqual(rotate(key=2, shape=(4, 2)), (2, 4))


class RotationSteps(RefusalCase):

    def test_example(self):
        self.assertEqual(rotation_steps((4, 2, 1, 3), 3), [(4, 2, 1, 3), (4, 3, 2, 1), (3, 2, 1, 4)])

    def test_each_shape_is_the_rotation_of_the_one_before_it(self):
        for tree, shape in SAMPLES:
            for key in shape:
                steps = rotation_steps(shape, key)
                self.assertIs(type(steps), list)
                self.assertEqual(steps[0], shape)
                self.assertEqual(root_of(steps[-1]), key)
                self.assertEqual(steps[1:], [rotate(step, key) for step in steps[:-1]])

    def test_against_nested_trees(self):
        for tree, shape in SAMPLES:
            for key in shape[::3]:
                steps = [tree]
                while steps[-1][0] != key:
                    steps.append(trees.rotated(steps[-1], key))
                self.assertEqual(rotation_steps(shape, key), [trees.preorder(step) for step in steps])

    def test_a_key_at_the_root(self):
        self.assertEqual(rotation_steps((4, 2), 4), [(4, 2)])
        self.assertEqual(rotation_steps((0,), 0), [(0,)])

    def test_no_key(self):
        self.assert_refused(NoKey, 3, rotation_steps, (4, 2), 3)
        self.assert_refused(NoKey, 0, rotation_steps, (), 0)
        self.assert_refused(NoKey, -10 ** 30, rotation_steps, (4, 2), -10 ** 30)

    def test_the_list_is_a_new_one(self):
        first = rotation_steps((4, 2, 1, 3), 3)
        first.clear()
        self.assertEqual(rotation_steps((4, 2, 1, 3), 3), [(4, 2, 1, 3), (4, 3, 2, 1), (3, 2, 1, 4)])

    def test_arguments_by_keyword(self):
        self.assertEqual(rotation_steps(key=2, shape=(4, 2)), [(4, 2), (2, 4)])


if __name__ == "__main__":
    unittest.main()
