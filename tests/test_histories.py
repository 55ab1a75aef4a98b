"""Histories, compared with their touches one by one."""

import copy
import itertools
import random
import unittest

from touchtrees.errors import BadStep, NoKey, TooLong, TooManyKeys
from touchtrees.histories import (
    COUNT_LIMIT, MAX_NESTING, MAX_STEPS, UNROLL_LIMIT, check_history, count_touches, last_touches, run_history,
    top_shape, touched_keys, unroll)
from touchtrees.structure import is_above
from touchtrees.touching import touch_all

import samples
import trees
from refusals import RefusalCase
from samples import repeat

KEYS = [-5, -1, 0, 2, 3, 7, 8]
HISTORIES = samples.random_histories(random.Random(6), KEYS, 250)
GREAT = 10 ** 30
QUESTIONS = (count_touches, last_touches, touched_keys, top_shape, unroll)
NO_KEYS = (-10 ** 30, -10 ** 9 - 1, 10 ** 9 + 1, 10 ** 30)


def nested(depth, *steps, count=2):
    """Steps inside rounds, one in another, so many levels deep."""
    for _ in range(depth):
        steps = (repeat(count, *steps),)
    return list(steps)


class CheckHistory(RefusalCase):

    def assert_no_history(self, error, worth, history):
        """All functions refuse what is no history, also if other errors would apply."""
        for form in (list(history), tuple(history)):
            self.assert_refused(error, worth, check_history, form)
            for question in QUESTIONS:
                self.assert_refused(error, worth, question, form)
            self.assert_refused(error, worth, unroll, form, limit=0)
            self.assert_refused(error, worth, run_history, (), form)
            self.assert_refused(error, worth, run_history, (1, 3), form)

    def assert_history(self, history):
        for form in (list(history), tuple(history)):
            self.assertIsNone(check_history(form))

    def test_limits(self):
        self.assertEqual([MAX_STEPS, MAX_NESTING, COUNT_LIMIT, UNROLL_LIMIT], [100, 4, 10 ** 30, 1000])

    def test_example(self):
        self.assert_no_history(BadStep, 3, [1, ("repeat", 2, (3, ("twice", 2, ())))])

    def test_histories(self):
        for history in HISTORIES:
            for form in (history, samples.with_lists(history), samples.with_tuples(history)):
                self.assert_history(form)
        self.assert_history([])

    def test_keys_at_their_bounds_and_just_outside(self):
        for key in (-10 ** 9, 10 ** 9, 0):
            self.assert_history([key, repeat(1, key)])
        for number in NO_KEYS:
            self.assert_no_history(BadStep, 0, [number])
            self.assert_no_history(BadStep, 2, [1, 2, number, number])
            self.assert_no_history(BadStep, 3, [1, repeat(2, 5, number), number])

    def test_counts_at_their_bounds_and_just_outside(self):
        for count in (0, 1, GREAT - 1, GREAT):
            self.assert_history([repeat(count, 1), repeat(count)])
        for count in (-1, -GREAT, GREAT + 1, 9 * GREAT):
            self.assert_no_history(BadStep, 0, [repeat(count, 1)])
            self.assert_no_history(BadStep, 1, [1, repeat(count)])
            self.assert_no_history(BadStep, 2, [repeat(0, 4, repeat(count))])

    def test_other_words(self):
        for word in ("", "Repeat", "repeat ", "REPEAT", "twice", "r", "repeatrepeat"):
            self.assert_no_history(BadStep, 0, [(word, 2, (1,))])
            self.assert_no_history(BadStep, 2, [1, repeat(2, (word, 2, ()))])

    def test_tuples_of_other_lengths(self):
        for step in ((), ("repeat",), ("repeat", 2), ("repeat", 2, (1,), 4), ("repeat", 2, (1,), (1,), 5)):
            self.assert_no_history(BadStep, 0, [step])
            self.assert_no_history(BadStep, 1, [7, step])
            self.assert_no_history(BadStep, 3, [7, repeat(0, 7, step), 10 ** 10])

    def test_rounds_at_depth_four_and_at_depth_five(self):
        self.assert_history(nested(4, 1))
        self.assert_history(nested(4) + nested(4, 2, 3))
        self.assert_history(nested(3, repeat(2, 1), repeat(2), repeat(3, 5)))
        self.assert_no_history(BadStep, 4, nested(5, 1))
        self.assert_no_history(BadStep, 4, nested(5))
        self.assert_no_history(BadStep, 4, nested(5, count=0))
        self.assert_no_history(BadStep, 4, nested(9, 10 ** 10))
        self.assert_no_history(BadStep, 9, nested(4, 1, 2) + nested(2, 1) + [10 ** 10])
        self.assert_no_history(BadStep, 7, [1, 2] + nested(4, 3, repeat(1, 4)))

    def test_a_closed_round_does_not_count_for_the_depth(self):
        self.assert_history([repeat(1), repeat(1), repeat(1), repeat(1), repeat(1), repeat(1, repeat(1))])
        self.assert_history([repeat(1, repeat(1, repeat(1)), repeat(1, repeat(1, repeat(1))))])

    def test_exactly_a_hundred_steps_and_a_hundred_and_one(self):
        for many in (99, 100):
            self.assert_history([1] * many)
            self.assert_history([repeat(2)] * many)
            self.assert_history([repeat(2, *[1] * (many - 1))])
            self.assert_history(nested(4, *[1] * (many - 4)))
            self.assert_history([repeat(0, 1)] * 49 + [1] * (many - 98))
        for many in (101, 102, 150):
            self.assert_no_history(TooLong, 100, [1] * many)
            self.assert_no_history(TooLong, 100, [repeat(2)] * many)
            self.assert_no_history(TooLong, 100, [repeat(2, *[1] * (many - 1))])
            self.assert_no_history(TooLong, 100, nested(4, *[1] * (many - 4)))
            self.assert_no_history(TooLong, 100, [repeat(0, 1)] * 49 + [1] * (many - 98))

    def test_a_fault_before_at_and_behind_the_position_a_hundred(self):
        for fault in (10 ** 10, (), repeat(-1), ("twice", 2, ()), repeat(GREAT + 1, 3)):
            self.assert_no_history(BadStep, 99, [1] * 99 + [fault])
            self.assert_no_history(BadStep, 99, [1] * 99 + [fault, 1, 1])
            self.assert_no_history(BadStep, 98, [1] * 97 + [repeat(2, fault, 1, 1)])
            self.assert_no_history(TooLong, 100, [1] * 100 + [fault])
            self.assert_no_history(TooLong, 100, [1] * 101 + [fault])
            self.assert_no_history(TooLong, 100, [1] * 99 + [repeat(2, fault)])
        self.assert_no_history(BadStep, 99, [1] * 95 + nested(5))
        self.assert_no_history(TooLong, 100, [1] * 96 + nested(5))

    def test_a_round_comes_before_its_inner_steps(self):
        history = [1, repeat(2, 3, repeat(4, 5), 6), repeat(7), 8]
        places = samples.all_steps(history)
        self.assertEqual(len(places), 8)
        self.assert_no_history(BadStep, 1, [1, repeat(-1, 10 ** 10)])
        self.assert_no_history(BadStep, 5, [1, repeat(2, 3, repeat(4, 5), 10 ** 10), repeat(7), 8])
        self.assert_no_history(BadStep, 6, [1, repeat(2, 3, repeat(4, 5), 6), repeat(-7), 10 ** 10])
        self.assert_no_history(BadStep, 7, [1, repeat(2, 3, repeat(4, 5), 6), repeat(7), 10 ** 10])

    def test_inner_steps_as_lists_and_as_tuples(self):
        for inner in ([1, ("repeat", 1, [])], (1, ("repeat", 1, ())), [1, ("repeat", 1, ())]):
            self.assert_history([("repeat", 2, inner)])
            self.assert_no_history(BadStep, 3, [("repeat", 2, inner), 10 ** 10])

    def test_every_fault_is_found_at_its_position(self):
        for history in HISTORIES[:60]:
            for pos in range(samples.count_steps(history)):
                for fault in (10 ** 9 + 1, ("repeat", 2)):
                    self.assert_refused(BadStep, pos, check_history, self.with_fault(history, pos, fault))

    def with_fault(self, steps, pos, fault):
        """The steps with a fault in place of the step at a position."""
        changed = []
        for step in steps:
            many = samples.count_steps([step])
            if pos == 0:
                changed.append(fault)
            elif 0 < pos < many:
                changed.append(step[:2] + (self.with_fault(step[2], pos - 1, fault),))
            else:
                changed.append(step)
            pos -= many
        return changed

    def test_arguments_are_not_modified(self):
        for history in HISTORIES[:100]:
            given = copy.deepcopy(history)
            check_history(given)
            for question in QUESTIONS:
                question(given)
            run_history(tuple(KEYS), given)
            self.assertEqual(given, history)

    def test_arguments_by_keyword(self):
        self.assertIsNone(check_history(history=[1]))
        answers = [question(history=[3, 1]) for question in QUESTIONS]
        self.assertEqual(answers, [2, [1, 3], [1, 3], (1, 3), [3, 1]])
        self.assertEqual(run_history(history=[2], shape=(4, 2)), ((2, 4), 1))


class Touches(RefusalCase):

    def test_examples(self):
        history = [1, ("repeat", 10 ** 20, (2, ("repeat", 3, (4, 5))))]
        self.assertEqual(count_touches(history), 700000000000000000001)
        self.assertEqual(last_touches([1, 2, ("repeat", 3, (4, 1)), ("repeat", 0, (9,))]), [1, 4, 2])
        self.assertEqual(touched_keys([3, ("repeat", 2, (1, 3))]), [1, 3])
        self.assertEqual(top_shape([3, 1, 2, 5]), (5, 2, 1, 3))

    def test_against_the_touches_one_by_one(self):
        for history in HISTORIES:
            touches = samples.written_out(history)
            recent = samples.last_first(touches)
            for form in (history, samples.with_lists(history), samples.with_tuples(history)):
                self.assertEqual(count_touches(form), len(touches))
                self.assertEqual(last_touches(form), recent)
                self.assertEqual(touched_keys(form), sorted(set(touches)))

    def test_the_top_against_its_definition(self):
        for history in HISTORIES:
            touches = samples.written_out(history)
            top = top_shape(history)
            self.assertIs(type(top), tuple)
            self.assertEqual(sorted(top), sorted(set(touches)))
            for one, other in itertools.permutations(top, 2):
                between = [key for key in touches if min(one, other) <= key <= max(one, other)]
                self.assertIs(is_above(top, one, other), between[-1] == one)

    def test_no_untouched_key_is_above_a_touched_one(self):
        for history in HISTORIES[:100]:
            after = run_history(tuple(KEYS), history)[0]
            top = top_shape(history)
            self.assertEqual(tuple(key for key in after if key in top), top)
            for key, other in itertools.product(set(KEYS) - set(top), top):
                self.assertIs(is_above(after, key, other), False)

    def test_great_counts_do_not_change_the_order(self):
        for history in samples.random_histories(random.Random(7), KEYS, 60, counts=(0, 1, GREAT)):
            small = self.with_counts(history)
            self.assertEqual(last_touches(history), last_touches(small))
            self.assertEqual(touched_keys(history), touched_keys(small))
            self.assertEqual(top_shape(history), top_shape(small))

    def with_counts(self, steps):
        """The steps, with the count 2 in place of greater ones."""
        return [
            ("repeat", min(step[1], 2), self.with_counts(step[2])) if isinstance(step, tuple) else step
            for step in steps]

    def test_numbers_of_touches_with_great_counts(self):
        self.assertEqual(count_touches(nested(4, 1, 2, count=GREAT)), 2 * 10 ** 120)
        self.assertEqual(count_touches(nested(4, count=GREAT)), 0)
        self.assertEqual(count_touches([repeat(0, *nested(3, 1, count=GREAT)), 5]), 1)
        self.assertEqual(count_touches([repeat(GREAT, repeat(0, 1)), repeat(GREAT, 2)]), GREAT)
        self.assertEqual(count_touches([repeat(GREAT, 1), repeat(GREAT - 1, 1), repeat(1, 1)]), 2 * GREAT)

    def test_no_touches(self):
        for history in ([], (), [repeat(GREAT)], [repeat(0, 1, 2)], nested(4, count=GREAT), [repeat(5, repeat(0, 9))]):
            answers = [count_touches(history), last_touches(history), touched_keys(history), top_shape(history)]
            self.assertEqual(answers, [0, [], [], ()])

    def test_a_round_with_the_count_zero_leaves_earlier_touches_as_they_are(self):
        self.assertEqual(last_touches([1, 2, 3, repeat(0, 1), repeat(0, 2, 1)]), [3, 2, 1])
        self.assertEqual(last_touches([1, 2, repeat(1, 1)]), [1, 2])
        self.assertEqual(last_touches([repeat(2, 1, 2, repeat(0, 1)), repeat(GREAT, repeat(0, 1))]), [2, 1])

    def test_forty_and_forty_one_different_touched_keys(self):
        for history in (list(range(40)), [repeat(GREAT, *range(40))], list(range(40)) + [repeat(0, 40, 41), 5, 6]):
            self.assertEqual(sorted(top_shape(history)), list(range(40)))
            self.assertEqual(len(last_touches(history)), 40)
        for history in (list(range(41)), [repeat(GREAT, *range(41))], [repeat(1, *range(40)), 40], list(range(100))):
            self.assert_refused(TooManyKeys, 40, top_shape, history)
            keys = [step for step in samples.all_steps(history) if not isinstance(step, tuple)]
            self.assertEqual(last_touches(history), keys[::-1])
            self.assertEqual(touched_keys(history), keys)

    def test_a_fault_comes_before_too_many_touched_keys(self):
        self.assert_refused(BadStep, 50, top_shape, list(range(50)) + [10 ** 10])
        self.assert_refused(TooLong, 100, top_shape, list(range(101)))

    def test_the_lists_are_new_ones(self):
        history = [3, 1]
        for question, answer in ((last_touches, [1, 3]), (touched_keys, [1, 3]), (unroll, [3, 1])):
            first = question(history)
            first.append(9)
            self.assertEqual(question(history), answer)
        self.assertEqual(history, [3, 1])


class Unroll(RefusalCase):

    def test_example(self):
        self.assertEqual(unroll([1, ("repeat", 2, (2, 3))]), [1, 2, 3, 2, 3])

    def test_against_the_touches_one_by_one(self):
        for history in HISTORIES:
            touches = samples.written_out(history)
            if len(touches) <= 1000:
                for form in (history, samples.with_lists(history), samples.with_tuples(history)):
                    answer = unroll(form)
                    self.assertEqual(answer, touches)
                    self.assertIs(type(answer), list)

    def test_limits_at_the_number_of_touches_and_beside_it(self):
        for history in HISTORIES[:120]:
            touches = samples.written_out(history)
            many = len(touches)
            self.assertEqual(unroll(history, limit=many), touches)
            self.assertEqual(unroll(history, limit=many + 1), touches)
            if many:
                self.assert_refused(TooLong, many - 1, unroll, history, limit=many - 1)
                self.assert_refused(TooLong, 0, unroll, history, limit=0)

    def test_the_limit_zero(self):
        for history in ([], [repeat(GREAT)], [repeat(0, 1, 2)], nested(4, count=GREAT)):
            self.assertEqual(unroll(history, limit=0), [])
        self.assert_refused(TooLong, 0, unroll, [1], limit=0)

    def test_the_default_limit(self):
        self.assertEqual(unroll([repeat(1000, 4)]), [4] * 1000)
        self.assertEqual(unroll([repeat(10, repeat(10, repeat(10, 4)))]), [4] * 1000)
        self.assert_refused(TooLong, 1000, unroll, [repeat(1001, 4)])
        self.assert_refused(TooLong, 1000, unroll, [repeat(1000, 4), 4])
        self.assert_refused(TooLong, 1000, unroll, nested(4, 1, count=GREAT))

    def test_the_greatest_limit(self):
        self.assertEqual(unroll([repeat(2500, 1, 2)], limit=5000), [1, 2] * 2500)
        self.assert_refused(TooLong, 5000, unroll, [repeat(2500, 1, 2), 3], limit=5000)

    def test_rounds_without_touches_and_great_counts(self):
        self.assertEqual(unroll([1, repeat(GREAT), 2, repeat(GREAT, repeat(0, 7)), 3]), [1, 2, 3])
        self.assertEqual(unroll([repeat(0, *nested(3, 1, count=GREAT)), 2]), [2])
        self.assertEqual(unroll([repeat(2, 1, *nested(3, count=GREAT))]), [1, 1])
        self.assertEqual(unroll([repeat(GREAT, *nested(3, 5, count=0)), 2]), [2])
        self.assertEqual(unroll([("repeat", GREAT, [])]), [])

    def test_the_limit_is_keyword_only(self):
        with self.assertRaises(TypeError):
            unroll([1], 5)


class RunHistory(RefusalCase):

    def test_example(self):
        self.assertEqual(run_history((3, 1, 2), [("repeat", 10, (1, 3))]), ((3, 1, 2), 20))

    def test_against_touches_one_by_one(self):
        rng = random.Random(8)
        for history in HISTORIES:
            tree = trees.random_tree(rng, KEYS)
            last, costs = trees.touched_all(tree, samples.written_out(history))
            for form in (history, samples.with_lists(history), samples.with_tuples(history)):
                answer = run_history(trees.preorder(tree), form)
                self.assertEqual(answer, (trees.preorder(last), sum(costs)))
                self.assertEqual([type(part) for part in answer], [tuple, int])

    def test_shapes_of_forty_keys(self):
        rng = random.Random(9)
        keys = sorted(rng.sample(range(-10 ** 9, 10 ** 9), 40))
        for history in samples.random_histories(rng, keys, 20):
            tree = trees.random_tree(rng, keys)
            last, costs = trees.touched_all(tree, samples.written_out(history))
            self.assertEqual(run_history(trees.preorder(tree), history), (trees.preorder(last), sum(costs)))

    def test_great_counts_against_two_repetitions_and_multiplication(self):
        rng = random.Random(10)
        for history in HISTORIES:
            touches = samples.written_out(history)
            shape = trees.preorder(trees.random_tree(rng, KEYS))
            once, first = touch_all(shape, touches)
            again, second = touch_all(once, touches)
            self.assertEqual(again, once)
            if self.nesting(history) > 3 or samples.count_steps(history) > 99:
                continue
            for count in (2, 3, 10 ** 15, GREAT):
                expected = sum(first) + (count - 1) * sum(second)
                self.assertEqual(run_history(shape, [("repeat", count, history)]), (once, expected))

    def nesting(self, steps):
        return max([1 + self.nesting(step[2]) for step in steps if isinstance(step, tuple)], default=0)

    def test_great_counts_four_deep(self):
        # From the second repetition on, the inner round begins with 3 at the root.
        inner = 2 * GREAT
        self.assertEqual(run_history((3, 1, 2), [repeat(GREAT, 1, 3)]), ((3, 1, 2), inner))
        history = nested(4, 1, 3, count=GREAT)
        self.assertEqual(run_history((3, 1, 2), history), ((3, 1, 2), 2 * 10 ** 120))
        self.assertEqual(run_history((1, 2, 3), history)[1], 2 * 10 ** 120 - 2 + sum(touch_all((1, 2, 3), [1, 3])[1]))

    def test_counts_of_zero_and_one_and_empty_rounds(self):
        shape = (4, 2, 6)
        deep = nested(3, repeat(0, 9), count=GREAT)
        for history in ([], [repeat(0, 2)], [repeat(GREAT)], nested(4, count=GREAT), deep):
            self.assertEqual(run_history(shape, history), (shape, 0))
            self.assertEqual(run_history((), history), ((), 0))
        self.assertEqual(run_history(shape, [repeat(1, 2, 6)]), ((6, 2, 4), 3))

    def test_the_first_missing_key_in_the_order_of_the_touches(self):
        for history in (
                [3], [2, 3, 5], [repeat(2, 4, 3), 5], [repeat(0, 5), 3], [repeat(GREAT, 2, repeat(2, 3), 5)],
                [repeat(GREAT, repeat(0, 5), repeat(1, 4, 4), repeat(GREAT, 3)), 5, 1]):
            self.assert_refused(NoKey, 3, run_history, (4, 2, 6), history)
        self.assert_refused(NoKey, 1, run_history, (), [1])

    def test_keys_in_rounds_with_the_count_zero_are_not_touched(self):
        self.assertEqual(run_history((4, 2), [repeat(0, 9), repeat(5, 2, repeat(0, 8)), repeat(0, repeat(3, 7))]),
                         ((2, 4), 1))

    def test_a_fault_comes_before_a_missing_key(self):
        self.assert_refused(BadStep, 1, run_history, (4, 2), [9, 10 ** 10])
        self.assert_refused(TooLong, 100, run_history, (4, 2), [9] * 101)


if __name__ == "__main__":
    unittest.main()
