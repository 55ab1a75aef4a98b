"""Logs, compared with the touches of all shapes."""

import copy
import random
import unittest

from touchtrees.errors import BadCost, NoKey, TooLong, TooManyKeys
from touchtrees.observations import (
    MAX_LOG, MAX_LOG_KEYS, count_shapes, find_shape, log_of, next_costs, read_gaps)
from touchtrees.structure import restrict

import trees
from logs import ALL_TREES, LISTS, LOGS, NO_LOGS, TWELVE, agreeing, expected_gaps, tree_log
from refusals import RefusalCase

QUESTIONS = (read_gaps, count_shapes, find_shape)


def ask_next(keys, log):
    return next_costs(keys, log, keys[0])


class LogOf(RefusalCase):

    def test_limits(self):
        self.assertEqual([MAX_LOG_KEYS, MAX_LOG], [12, 60])

    def test_example(self):
        self.assertEqual(log_of((4, 2, 1, 3), [3, 1, 3]), [(3, 2), (1, 2), (3, 1)])

    def test_against_touches_one_by_one(self):
        rng = random.Random(19)
        for tree in trees.sample_trees():
            keys = trees.keys_of(tree)
            for many in (0, 1, 5, 70):
                touches = rng.choices(keys, k=many) if keys else []
                given = list(touches)
                log = log_of(trees.preorder(tree), given)
                self.assertEqual(log, tree_log(tree, touches))
                self.assertEqual([type(log)] + [type(entry) for entry in log], [list] + [tuple] * len(touches))
                self.assertEqual(given, touches)
                self.assertEqual(log_of(trees.preorder(tree), tuple(touches)), log)

    def test_no_touches(self):
        for empty in ([], ()):
            self.assertEqual(log_of((2, 1), empty), [])
            self.assertEqual(log_of((), empty), [])

    def test_the_first_missing_key(self):
        for touches in ([3], [4, 3], [4, 2, 3, 5, 3], (3, 5), [2] * 100 + [3, 7]):
            self.assert_refused(NoKey, 3, log_of, (4, 2), touches)
        self.assert_refused(NoKey, 0, log_of, (), [0])

    def test_the_list_is_a_new_one(self):
        log_of((4, 2), [2]).clear()
        self.assertEqual(log_of(touches=[2], shape=(4, 2)), [(2, 1)])


class ReadGaps(RefusalCase):

    def test_example(self):
        self.assertEqual(read_gaps([1, 2, 3, 4], [(3, 2), (1, 2)]), [(None, None, 3, 2), (None, 3, 1, 1)])

    def test_against_the_definition(self):
        for keys, log in LOGS:
            found = read_gaps(keys, log)
            self.assertEqual(found, expected_gaps(keys, log))
            self.assertEqual([type(found)] + [type(row) for row in found], [list] + [tuple] * len(found))

    def test_the_depth_is_the_one_in_the_restriction_to_the_gap(self):
        for keys, log in LOGS:
            for tree in agreeing(keys, log)[:3]:
                for low, high, key, depth in read_gaps(keys, log):
                    self.assertEqual(log_of(restrict(trees.preorder(tree), low=low, high=high), [key]), [(key, depth)])

    def test_repeated_touches_negative_depths_and_great_costs(self):
        keys = [0, 1, 2, 3]
        self.assertEqual(read_gaps(keys, [(2, 1), (2, 5), (2, 0)]), [(None, None, 2, 1)])
        self.assertEqual(read_gaps(keys, [(1, 0), (3, 0), (2, 0)]), [
            (None, None, 1, 0), (1, None, 3, -1), (1, 3, 2, -2)])
        self.assertEqual(read_gaps(keys, [(0, 10 ** 30), (1, 10 ** 30)]), [
            (None, None, 0, 10 ** 30), (0, None, 1, 10 ** 30 - 1)])
        self.assertEqual(read_gaps(keys, [(0, 3), (3, 1), (0, 1), (1, 7)]), [
            (None, None, 0, 3), (0, None, 3, 0), (0, 3, 1, 5)])
        # Of the touched keys, 0 is not above 2 if 1 was touched after it, and it is if 1 was touched before it.
        self.assertEqual(read_gaps(keys, [(3, 0), (0, 0), (1, 1), (2, 9)])[-1], (1, 3, 2, 7))
        self.assertEqual(read_gaps(keys, [(3, 0), (1, 0), (0, 1), (2, 9)])[-1], (1, 3, 2, 6))

    def test_no_entries(self):
        for keys in LISTS:
            self.assertEqual(read_gaps(keys, []), [])


class CountAndFind(RefusalCase):

    def test_examples(self):
        self.assertEqual(count_shapes([1, 2, 3], [(2, 1)]), 2)
        self.assertEqual(find_shape([1, 2, 3], [(3, 2), (1, 1)]), (1, 2, 3))

    def test_against_all_shapes(self):
        kinds = [0, 0, 0]
        for keys, log in LOGS:
            shapes = [trees.preorder(tree) for tree in agreeing(keys, log)]
            self.assertEqual(count_shapes(keys, log), len(shapes))
            found = find_shape(keys, log)
            if shapes:
                self.assertIn(found, shapes)
                self.assertIs(type(found), tuple)
            else:
                self.assertIsNone(found)
            kinds[min(len(shapes), 2)] += 1
        self.assertGreater(min(kinds), 20)

    def test_every_first_touch_with_every_cost(self):
        for keys in LISTS:
            for key in keys:
                costs = [trees.touched(tree, key)[1] for tree in ALL_TREES[len(keys)]]
                for cost in list(range(len(keys) + 2)) + [10 ** 30]:
                    self.assertEqual(count_shapes(keys, [(key, cost)]), costs.count(cost))

    def test_no_entries(self):
        self.assertEqual([count_shapes(keys, []) for keys in LISTS], [1, 1, 2, 5, 14, 42, 132])
        self.assertEqual(count_shapes(TWELVE, []), 208012)
        self.assertEqual(count_shapes([], []), 1)
        self.assertEqual(find_shape([], []), ())

    def test_repeated_touches(self):
        keys = [1, 2, 3]
        self.assertEqual(count_shapes(keys, [(2, 1), (2, 0), (2, 0)]), 2)
        self.assertEqual(count_shapes(keys, [(2, 1), (2, 1)]), 0)
        self.assertEqual(count_shapes(keys, [(2, 0), (2, 10 ** 30)]), 0)
        self.assertEqual(count_shapes(keys, [(1, 0), (3, 1), (1, 1), (3, 1)]), 1)
        self.assertEqual(count_shapes(keys, [(1, 0), (3, 1), (1, 1), (3, 0)]), 0)
        self.assertEqual(count_shapes(keys, [(1, 0), (3, 2), (1, 2)]), 0)
        self.assertIsNone(find_shape(keys, [(2, 1), (2, 1)]))

    def test_costs_that_no_shape_has(self):
        for log in (
                [(1, 3)], [(1, 10 ** 30)], [(2, 0), (1, 0)], [(1, 2), (2, 0)], [(1, 1), (2, 3)],
                [(3, 2), (2, 1), (1, 0)]):
            self.assertEqual(count_shapes([1, 2, 3], log), 0, log)
            self.assertIsNone(find_shape([1, 2, 3], log))

    def test_twelve_keys_with_up_to_sixty_touches(self):
        rng = random.Random(20)
        for many in list(range(0, 61, 3)) + [60] * 10:
            tree = trees.random_tree(rng, TWELVE)
            log = tree_log(tree, rng.choices(TWELVE, k=many))
            self.assertGreater(count_shapes(TWELVE, log), 0)
            found = find_shape(TWELVE, log)
            self.assertEqual(log_of(found, [key for key, cost in log]), log)
            at = rng.randrange(many) if many else 0
            changed = log[:at] + [(key, cost + 12) for key, cost in log[at:]]
            self.assertEqual(count_shapes(TWELVE, changed), 0 if many else 208012)

    def test_numbers_over_twelve_keys_add_up(self):
        rng = random.Random(21)
        for many in (0, 1, 2, 4, 6):
            log = tree_log(trees.random_tree(rng, TWELVE), rng.choices(TWELVE, k=many))
            for key in rng.sample(TWELVE, 4):
                numbers = [count_shapes(TWELVE, log + [(key, cost)]) for cost in range(13)]
                self.assertEqual(sum(numbers), count_shapes(TWELVE, log))

    def test_chains_of_twelve_keys(self):
        for keys in (TWELVE, TWELVE[::-1]):
            log = log_of(tuple(keys), keys[::-1])
            self.assertEqual(count_shapes(TWELVE, log), 1)
            self.assertEqual(find_shape(TWELVE, log), tuple(keys))


class NextCosts(RefusalCase):

    def test_examples(self):
        self.assertEqual(next_costs([1, 2, 3], [], 1), [(0, 2), (1, 2), (2, 1)])
        self.assertEqual(next_costs([1, 2, 3], [(2, 1)], 1), [(1, 2)])

    def test_against_all_shapes(self):
        for keys, log in LOGS:
            found = agreeing(keys, log)
            touches = [key for key, cost in log]
            for key in keys:
                costs = [tree_log(tree, touches + [key])[-1][1] for tree in found]
                answer = next_costs(keys, log, key)
                self.assertEqual(answer, sorted((cost, costs.count(cost)) for cost in set(costs)))
                self.assertIs(type(answer), list)
                self.assertEqual([type(pair) for pair in answer], [tuple] * len(answer))

    def test_a_log_that_no_shape_agrees_with(self):
        for key in (1, 2, 3):
            self.assertEqual(next_costs([1, 2, 3], [(2, 0), (1, 0)], key), [])
            self.assertEqual(next_costs([1, 2, 3], [(2, 1), (2, 1)], key), [])

    def test_a_touched_key_has_one_cost(self):
        self.assertEqual(next_costs([1, 2, 3], [(2, 1)], 2), [(0, 2)])
        self.assertEqual(next_costs([1, 2, 3], [(2, 1), (1, 1)], 2), [(1, 2)])
        self.assertEqual(next_costs([4], [], 4), [(0, 1)])

    def test_after_sixty_entries(self):
        rng = random.Random(22)
        tree = trees.random_tree(rng, TWELVE)
        touches = rng.choices(TWELVE[:9], k=60)
        log = tree_log(tree, touches)
        for key in TWELVE:
            answer = next_costs(TWELVE, log, key)
            self.assertEqual(sum(number for cost, number in answer), count_shapes(TWELVE, log))
            self.assertIn(tree_log(tree, touches + [key])[-1][1], [cost for cost, number in answer])

    def test_the_key_is_checked_last(self):
        self.assert_refused(NoKey, 9, next_costs, [1, 2], [(1, 0)], 9)
        self.assert_refused(NoKey, 9, next_costs, [], [], 9)
        self.assert_refused(NoKey, 9, next_costs, [1, 2], [(1, 1), (1, 1)], 9)
        self.assert_refused(NoKey, 8, next_costs, [1, 2], [(8, 0)], 9)
        self.assert_refused(BadCost, 0, next_costs, [1, 2], [(1, -1)], 9)
        self.assert_refused(TooLong, 60, next_costs, [1, 2], [(1, 0)] * 61, 9)
        self.assert_refused(TooManyKeys, 12, next_costs, list(range(13)), [], 99)


class LogErrors(RefusalCase):

    def test_every_error_and_their_order(self):
        for error, worth, keys, log in NO_LOGS:
            for question in QUESTIONS + (ask_next,):
                self.assert_refused(error, worth, question, keys, log)
                self.assert_refused(error, worth, question, tuple(keys), tuple(log))

    def test_as_many_keys_and_entries_as_allowed(self):
        for question in QUESTIONS + (ask_next,):
            self.assertIsNotNone(question(TWELVE, []))
            self.assertIsNotNone(question([1, 2], [(1, 0)] * 60))

    def test_arguments_are_not_modified_and_tuples_may_be_passed(self):
        for keys, log in LOGS[::3]:
            given = copy.deepcopy((keys, log))
            for question in QUESTIONS + ((ask_next,) if keys else ()):
                answer = question(*given)
                self.assertEqual(given, (keys, log))
                self.assertEqual(question(*given), answer)
                self.assertEqual(question(tuple(keys), tuple(log)), answer)

    def test_the_lists_are_new_ones(self):
        keys, log = [1, 2, 3], [(2, 1)]
        for question, answer in ((read_gaps, [(None, None, 2, 1)]), (ask_next, [(1, 2)])):
            question(keys, log).append(5)
            self.assertEqual(question(keys, log), answer)
        self.assertEqual([keys, log], [[1, 2, 3], [(2, 1)]])

    def test_arguments_by_keyword(self):
        answers = [question(log=[(2, 1)], keys=[1, 2]) for question in QUESTIONS]
        self.assertEqual(answers, [[(None, None, 2, 1)], 1, (1, 2)])
        self.assertEqual(next_costs(key=1, log=[(2, 1)], keys=[1, 2]), [(1, 1)])


if __name__ == "__main__":
    unittest.main()
