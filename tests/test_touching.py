"""Touches, insertions, removals, cuts and joins, compared with rotations of nested trees."""

import itertools
import random
import unittest

from touchtrees.errors import BadKey, DuplicateKey, NoKey, Overlap, TooManyKeys
from touchtrees.rotations import rotation_steps
from touchtrees.structure import is_above, restrict
from touchtrees.touching import cut_at, insert_key, join_trees, remove_key, touch, touch_all

import trees
from refusals import RefusalCase

SAMPLES = [(tree, trees.preorder(tree)) for tree in trees.sample_trees()]
FORTY = tuple(range(1, 41))
NO_KEYS = (-10 ** 30, -10 ** 9 - 1, 10 ** 9 + 1, 10 ** 30)


def missing_keys(shape):
    """Keys beside those of a shape that the shape does not have."""
    return [key for key in trees.beside(shape) if key not in shape and abs(key) <= 10 ** 9]


class Touch(RefusalCase):

    def test_example(self):
        self.assertEqual(touch((4, 2, 1, 3, 6, 5), 3), ((3, 2, 1, 4, 6, 5), 2))

    def test_every_key_of_every_sample_against_rotations_one_by_one(self):
        for tree, shape in SAMPLES:
            for key in shape:
                answer = touch(shape, key)
                last, cost = trees.touched(tree, key)
                self.assertEqual(answer, (trees.preorder(last), cost))
                steps = rotation_steps(shape, key)
                self.assertEqual(answer, (steps[-1], len(steps) - 1))
                self.assertEqual([type(part) for part in (answer, answer[0])], [tuple, tuple])

    def test_what_a_touch_changes_and_what_it_leaves_as_it_is(self):
        for tree, shape in SAMPLES:
            if len(shape) not in (4, 5, 9):
                continue
            for key in shape:
                self.check_places(shape, touch(shape, key)[0], key)

    def check_places(self, before, after, key):
        for one, other in itertools.permutations(before, 2):
            if key in (one, other):
                expected = one == key
            elif (one < key) == (other < key):
                expected = is_above(before, one, other)
            else:
                expected = False
            self.assertIs(is_above(after, one, other), expected)

    def test_restrictions_to_one_side_stay_as_they_are(self):
        for tree, shape in SAMPLES:
            for key in shape[::4]:
                last = touch(shape, key)[0]
                self.assertEqual(restrict(last, high=key), restrict(shape, high=key))
                self.assertEqual(restrict(last, low=key), restrict(shape, low=key))

    def test_the_root(self):
        self.assertEqual(touch((4, 2, 6), 4), ((4, 2, 6), 0))
        self.assertEqual(touch((0,), 0), ((0,), 0))

    def test_no_key(self):
        for tree, shape in SAMPLES:
            for key in missing_keys(shape):
                self.assert_refused(NoKey, key, touch, shape, key)
        self.assert_refused(NoKey, 10 ** 30, touch, (1,), 10 ** 30)

    def test_arguments_by_keyword(self):
        self.assertEqual(touch(key=2, shape=(4, 2)), ((2, 4), 1))


class TouchAll(RefusalCase):

    def test_example(self):
        self.assertEqual(touch_all((4, 2, 1, 3), [3, 3, 1]), ((1, 3, 2, 4), [2, 0, 2]))

    def test_against_rotations_one_by_one(self):
        rng = random.Random(4)
        for tree, shape in SAMPLES:
            for many in (1, 2, 5, 60):
                keys = rng.choices(shape, k=many) if shape else []
                given = list(keys)
                last, costs = trees.touched_all(tree, keys)
                answer = touch_all(shape, given)
                self.assertEqual(answer, (trees.preorder(last), costs))
                self.assertEqual([type(part) for part in answer], [tuple, list])
                self.assertEqual(given, keys)
                self.assertEqual(touch_all(shape, tuple(keys)), answer)

    def test_every_list_of_three_touches_of_short_trees(self):
        for tree, shape in SAMPLES:
            if 0 < len(shape) < 5:
                for keys in itertools.product(shape, repeat=3):
                    last, costs = trees.touched_all(tree, keys)
                    self.assertEqual(touch_all(shape, keys), (trees.preorder(last), costs))

    def test_only_the_order_of_the_last_touches_matters(self):
        rng = random.Random(5)
        for tree, shape in SAMPLES:
            keys = rng.choices(shape, k=30) if shape else []
            last = [key for at, key in enumerate(keys) if key not in keys[at + 1:]]
            self.assertEqual(touch_all(shape, keys)[0], touch_all(shape, last)[0])

    def test_the_touched_keys_form_the_top_in_the_order_of_the_last_touches(self):
        for tree, shape in SAMPLES:
            if len(shape) in (4, 5):
                for keys in itertools.permutations(shape, 3):
                    self.check_last_touches(shape, keys)

    def check_last_touches(self, shape, keys):
        after = touch_all(shape, keys)[0]
        for one, other in itertools.permutations(shape, 2):
            between = [key for key in keys if min(one, other) <= key <= max(one, other)]
            expected = between[-1] == one if between else is_above(shape, one, other)
            self.assertIs(is_above(after, one, other), expected)

    def test_repeated_keys_and_no_keys(self):
        self.assertEqual(touch_all((4, 2, 6), [2, 2, 2, 2]), ((2, 4, 6), [1, 0, 0, 0]))
        for empty in ([], ()):
            self.assertEqual(touch_all((4, 2, 6), empty), ((4, 2, 6), []))
            self.assertEqual(touch_all((), empty), ((), []))

    def test_the_first_missing_key_also_behind_other_touches(self):
        for keys in ([3], [4, 3], [4, 2, 6, 3, 5], [3, 5], [2] * 50 + [3] + [5] * 50, [3, 10 ** 30]):
            self.assert_refused(NoKey, 3, touch_all, (4, 2, 6), keys)
            self.assert_refused(NoKey, 3, touch_all, (4, 2, 6), tuple(keys))
        self.assert_refused(NoKey, 5, touch_all, (4, 2, 6), [2, 5, 3])
        self.assert_refused(NoKey, 0, touch_all, (), [0])

    def test_the_list_is_a_new_one(self):
        keys = [3, 3, 1]
        for shape, touches, costs in (((4, 2, 1, 3), keys, [2, 0, 2]), ((4,), [], [])):
            first = touch_all(shape, touches)[1]
            first.append(9)
            self.assertEqual(touch_all(shape, touches)[1], costs)
        self.assertEqual(keys, [3, 3, 1])

    def test_arguments_by_keyword(self):
        self.assertEqual(touch_all(keys=[2], shape=(4, 2)), ((2, 4), [1]))


class InsertKey(RefusalCase):

    def test_example(self):
        self.assertEqual(insert_key((4, 2, 6), 3), ((3, 2, 4, 6), 2))

    def test_every_place_of_every_sample(self):
        for tree, shape in SAMPLES:
            if len(shape) == 40:
                continue
            for key in missing_keys(shape):
                last, cost = trees.touched(trees.insert_leaf(tree, key), key)
                answer = insert_key(shape, key)
                self.assertEqual(answer, (trees.preorder(last), cost))
                self.assertEqual([type(part) for part in (answer, answer[0])], [tuple, tuple])

    def test_a_key_less_than_all_and_greater_than_all(self):
        self.assertEqual(insert_key((4, 2, 6), -10 ** 9), ((-10 ** 9, 4, 2, 6), 2))
        self.assertEqual(insert_key((4, 2, 6), 10 ** 9), ((10 ** 9, 4, 2, 6), 2))
        self.assertEqual(insert_key((), 0), ((0,), 0))

    def test_up_to_forty_keys(self):
        shape = ()
        for key in FORTY:
            shape, cost = insert_key(shape, key)
            self.assertEqual(cost, min(key - 1, 1))
        self.assertEqual(shape, FORTY[::-1])
        self.assert_refused(TooManyKeys, 40, insert_key, shape, 41)
        self.assert_refused(TooManyKeys, 40, insert_key, shape, 0)
        self.assertEqual(insert_key(FORTY[1:], 1), (FORTY, 1))

    def test_integers_that_are_no_keys(self):
        for number in NO_KEYS:
            for shape in ((), (4, 2, 6), FORTY):
                self.assert_refused(BadKey, number, insert_key, shape, number)

    def test_a_key_that_is_there(self):
        for tree, shape in SAMPLES:
            for key in shape:
                self.assert_refused(DuplicateKey, key, insert_key, shape, key)

    def test_the_order_of_the_errors(self):
        self.assert_refused(BadKey, 10 ** 9 + 1, insert_key, FORTY, 10 ** 9 + 1)
        self.assert_refused(DuplicateKey, 7, insert_key, FORTY, 7)
        self.assert_refused(TooManyKeys, 40, insert_key, FORTY, 10 ** 9)

    def test_arguments_by_keyword(self):
        self.assertEqual(insert_key(key=2, shape=(4,)), ((2, 4), 1))


class RemoveKey(RefusalCase):

    def test_examples(self):
        self.assertEqual(remove_key((4, 2, 1, 3, 6), 4), ((3, 2, 1, 6), 2))
        self.assertEqual(remove_key((4, 6), 4), ((6,), 0))

    def removed(self, tree, key):
        """The shape and the cost that the touches of nested trees lead to."""
        last, cost = trees.touched(tree, key)
        smaller = [other for other in trees.keys_of(tree) if other < key]
        if not smaller:
            self.assertIsNone(last[1])
            return trees.preorder(last[2]), cost
        last, more = trees.touched(last, smaller[-1])
        top, left, (child, nothing, right) = last
        self.assertEqual((child, nothing), (key, None))
        return trees.preorder((top, left, right)), cost + more

    def test_every_key_of_every_sample(self):
        for tree, shape in SAMPLES:
            for key in shape:
                answer = remove_key(shape, key)
                self.assertEqual(answer, self.removed(tree, key))
                self.assertEqual([type(part) for part in (answer, answer[0])], [tuple, tuple])

    def test_the_least_the_greatest_and_the_only_key(self):
        self.assertEqual(remove_key((4, 2, 1, 3, 6), 1), ((4, 2, 3, 6), 2))
        self.assertEqual(remove_key((4, 2, 1, 3, 6), 6), ((4, 2, 1, 3), 2))
        for key in (0, 5, -10 ** 9):
            self.assertEqual(remove_key((key,), key), ((), 0))

    def test_several_removals_one_after_another(self):
        for tree, shape in SAMPLES:
            order = sorted(shape, key=lambda key: key * 7 % 41)
            for at, key in enumerate(order):
                shape, cost = remove_key(shape, key)
                self.assertEqual(sorted(shape), sorted(order[at + 1:]))
                self.assert_refused(NoKey, key, remove_key, shape, key)
            self.assertEqual(shape, ())

    def test_no_key(self):
        for tree, shape in SAMPLES:
            for key in missing_keys(shape):
                self.assert_refused(NoKey, key, remove_key, shape, key)
        self.assert_refused(NoKey, 10 ** 30, remove_key, (1,), 10 ** 30)

    def test_arguments_by_keyword(self):
        self.assertEqual(remove_key(key=2, shape=(4, 2)), ((4,), 1))


class CutAndJoin(RefusalCase):

    def test_examples(self):
        self.assertEqual(cut_at((4, 2, 1, 3, 6), 3), ((3, 2, 1), (4, 6), 2))
        self.assertEqual(join_trees((2, 1, 3), (6, 5)), ((3, 2, 1, 6, 5), 1))

    def test_cuts_at_every_key_of_every_sample(self):
        for tree, shape in SAMPLES:
            for key in shape:
                (top, left, right), cost = trees.touched(tree, key)
                answer = cut_at(shape, key)
                self.assertEqual(answer, (trees.preorder((top, left, None)), trees.preorder(right), cost))
                self.assertEqual([type(part) for part in answer], [tuple, tuple, int])

    def test_cuts_at_the_least_the_greatest_and_the_only_key(self):
        self.assertEqual(cut_at((4, 2, 6), 6), ((6, 4, 2), (), 1))
        self.assertEqual(cut_at((4, 2, 6), 2), ((2,), (4, 6), 1))
        self.assertEqual(cut_at((0,), 0), ((0,), (), 0))

    def test_a_cut_at_a_missing_key(self):
        for tree, shape in SAMPLES:
            for key in missing_keys(shape):
                self.assert_refused(NoKey, key, cut_at, shape, key)

    def test_the_parts_joined_again(self):
        for tree, shape in SAMPLES:
            for key in shape:
                remaining, right, cost = cut_at(shape, key)
                self.assertEqual(join_trees(remaining, right), (touch(shape, key)[0], 0))

    def test_joins_of_the_two_sides_of_a_bound(self):
        for tree, shape in SAMPLES:
            for bound in shape[::3]:
                one, other = restrict(shape, high=bound), restrict(shape, low=bound)
                if one and other:
                    last, cost = touch(one, max(one))
                    self.assertEqual(join_trees(one, other), (last + other, cost))

    def test_joins_of_nested_trees(self):
        for one, other in itertools.product(trees.all_trees([1, 2, 5]), trees.all_trees([6, 8])):
            (top, left, nothing), cost = trees.touched(one, 5)
            self.assertIsNone(nothing)
            joined = join_trees(trees.preorder(one), trees.preorder(other))
            self.assertEqual(joined, (trees.preorder((top, left, other)), cost))

    def test_an_empty_part_on_either_side_and_on_both(self):
        for tree, shape in SAMPLES:
            self.assertEqual(join_trees((), shape), (shape, 0))
            self.assertEqual(join_trees(shape, ()), (shape, 0))
        self.assertEqual(join_trees((), ()), ((), 0))

    def test_overlaps(self):
        for one, other, key in (
                ((1,), (1,), 1), ((2,), (1,), 2), ((2, 1, 3), (3, 5), 3), ((2, 1, 3), (5, 2), 3),
                ((1, 9), (5, 3, 7), 9), ((5, 4, 6), (2, 1, 3), 6), ((0,), (-1,), 0), ((-2, -3), (-4, 9), -2)):
            self.assert_refused(Overlap, key, join_trees, one, other)

    def test_forty_and_forty_one_keys_together(self):
        for at in (1, 20, 39):
            self.assertEqual(len(join_trees(FORTY[:at], FORTY[at:])[0]), 40)
            self.assert_refused(TooManyKeys, 40, join_trees, FORTY[:at], FORTY[at:] + (41,))
        self.assert_refused(TooManyKeys, 40, join_trees, FORTY, (41,))
        self.assert_refused(TooManyKeys, 40, join_trees, (0,), FORTY)

    def test_an_overlap_comes_before_too_many_keys(self):
        self.assert_refused(Overlap, 40, join_trees, FORTY, FORTY)
        self.assert_refused(Overlap, 40, join_trees, FORTY, (40, 50))
        self.assert_refused(Overlap, 50, join_trees, (50,), FORTY)

    def test_arguments_by_keyword(self):
        self.assertEqual(cut_at(key=2, shape=(4, 2)), ((2,), (4,), 1))
        self.assertEqual(join_trees(other=(4,), one=(2,)), ((2, 4), 0))


if __name__ == "__main__":
    unittest.main()
