"""Observers of a hidden shape, compared with all shapes."""

import random
import unittest

from touchtrees.errors import BadCost, Contradiction, EmptyHistory, NoKey, TooLong, TooManyKeys
from touchtrees.observations import count_shapes, find_shape, next_costs
from touchtrees.observer import Observer

import trees
from logs import LISTS, TWELVE, agreeing, random_log
from refusals import RefusalCase


def observer_of(keys, log):
    """An observer with a log."""
    watcher = Observer(keys)
    for key, cost in log:
        watcher.observe(key, cost=cost)
    return watcher


def state_of(watcher):
    """All that an observer tells, what can be redone included."""
    later = watcher.twin()
    again = []
    try:
        while True:
            later.redo()
            again.append(later.observed()[-1])
    except EmptyHistory:
        pass
    return watcher.universe_keys(), watcher.observed(), again, watcher.shapes_left(), len(watcher), repr(watcher)


class Observing(RefusalCase):

    def test_examples(self):
        self.assertEqual(repr(Observer([1, 2, 3])), "Observer(3 keys, 0 touches)")
        watcher = Observer([1, 2, 3])
        self.assertEqual(watcher.observe(2, cost=1), 2)
        self.assert_refused(Contradiction, 0, Observer([1, 2, 3]).observe, 2, cost=3)
        self.assertEqual(Observer((1, 2)).universe_keys(), [1, 2])
        watcher = Observer([1, 2])
        watcher.observe(1, cost=1)
        self.assertEqual(watcher.observed(), [(1, 1)])
        self.assertEqual(watcher.example(), (2, 1))
        self.assertEqual(Observer([1, 2, 3, 4]).shapes_left(), 14)
        self.assertEqual(Observer([1, 2]).forecast(1), [(0, 1), (1, 1)])
        watcher = Observer([1, 2, 3])
        watcher.observe(3)
        self.assertEqual(watcher.certain_keys(), [3])
        watcher = Observer([1, 2])
        self.assertTrue(watcher.twin() == watcher)

    def test_each_call_against_all_shapes(self):
        rng = random.Random(40)
        refused = 0
        for keys in LISTS[1:6]:
            for _ in range(25):
                watcher = Observer(keys)
                log = []
                for _ in range(rng.randrange(1, 12)):
                    key, cost = rng.choice(keys), rng.randrange(len(keys) + 1)
                    left = len(agreeing(keys, log + [(key, cost)]))
                    if left:
                        self.assertEqual(watcher.observe(key, cost=cost), left)
                        log.append((key, cost))
                    else:
                        self.assert_refused(Contradiction, len(log), watcher.observe, key, cost=cost)
                        refused += 1
                    shapes = [trees.preorder(tree) for tree in agreeing(keys, log)]
                    self.assertEqual([watcher.shapes_left(), watcher.observed()], [len(shapes), log])
                    self.assertIn(watcher.example(), shapes)
                    self.assertEqual(len(watcher), len(log))
        self.assertGreater(refused, 100)

    def test_no_keys(self):
        for keys in ([], ()):
            watcher = Observer(keys)
            self.assertEqual([watcher.shapes_left(), watcher.example(), watcher.certain_keys()], [1, (), []])
            self.assertEqual([watcher.universe_keys(), watcher.observed(), len(watcher)], [[], [], 0])
            self.assert_refused(NoKey, 1, watcher.observe, 1)
            self.assertEqual(repr(watcher), "Observer(0 keys, 0 touches)")

    def test_the_cost_is_zero_if_it_is_left_out(self):
        watcher = Observer([1, 2, 3])
        self.assertEqual(watcher.observe(3), 2)
        self.assertEqual(watcher.observe(key=3, cost=0), 2)
        self.assertEqual(watcher.observed(), [(3, 0), (3, 0)])
        with self.assertRaises(TypeError):
            watcher.observe(3, 0)

    def test_twelve_keys_and_sixty_entries(self):
        rng = random.Random(41)
        log = random_log(rng, TWELVE, 60)
        watcher = Observer(TWELVE)
        for at, (key, cost) in enumerate(log):
            self.assertEqual(watcher.observe(key, cost=cost), count_shapes(TWELVE, log[:at + 1]))
        self.assertEqual([len(watcher), watcher.observed()], [60, log])
        self.assertEqual(repr(watcher), "Observer(12 keys, 60 touches)")

    def test_too_many_keys(self):
        for many in (13, 14, 40):
            self.assert_refused(TooManyKeys, 12, Observer, list(range(many)))
            self.assert_refused(TooManyKeys, 12, Observer, keys=tuple(range(many)))

    def test_the_order_of_the_errors(self):
        full = observer_of([1, 2], [(1, 0)] + [(1, 0)] * 59)
        for key, cost in ((9, -1), (9, 0), (1, -1), (1, 5), (1, 0), (2, 1)):
            self.assert_refused(TooLong, 60, full.observe, key, cost=cost)
        self.assertEqual(len(full), 60)
        full.undo()
        self.assert_refused(NoKey, 9, full.observe, 9, cost=-1)
        self.assert_refused(BadCost, 59, full.observe, 2, cost=-1)
        self.assert_refused(Contradiction, 59, full.observe, 2, cost=0)
        watcher = Observer([1, 2])
        self.assert_refused(NoKey, 10 ** 30, watcher.observe, 10 ** 30, cost=-1)
        self.assert_refused(BadCost, 0, watcher.observe, 2, cost=-10 ** 30)
        self.assert_refused(Contradiction, 0, watcher.observe, 2, cost=10 ** 30)

    def test_an_error_changes_nothing(self):
        watcher = observer_of([1, 2, 3], [(2, 1), (1, 1), (3, 2)])
        watcher.undo()
        before = state_of(watcher)
        self.assertEqual(before[2], [(3, 2)])
        self.assert_refused(NoKey, 4, watcher.observe, 4)
        self.assert_refused(BadCost, 2, watcher.observe, 3, cost=-1)
        self.assert_refused(Contradiction, 2, watcher.observe, 2, cost=0)
        self.assert_refused(NoKey, 4, watcher.forecast, 4)
        self.assertEqual(state_of(watcher), before)
        watcher.redo()
        self.assert_refused(EmptyHistory, None, watcher.redo)
        self.assertEqual(watcher.observed(), [(2, 1), (1, 1), (3, 2)])
        full = observer_of([1], [(1, 0)] * 60)
        self.assert_refused(TooLong, 60, full.observe, 1)
        self.assertEqual(state_of(full)[1:3], ([(1, 0)] * 60, []))


class UndoAndRedo(RefusalCase):

    def test_examples(self):
        self.assert_refused(EmptyHistory, None, Observer([1]).undo)
        watcher = Observer([1, 2])
        watcher.observe(1, cost=1)
        self.assertIsNone(watcher.undo())
        self.assertIsNone(watcher.redo())
        self.assertEqual(len(watcher), 1)

    def test_several_in_a_row(self):
        log = [(2, 1), (1, 1), (3, 2), (2, 2)]
        watcher = observer_of([1, 2, 3], log)
        numbers = [5] + [count_shapes([1, 2, 3], log[:many]) for many in range(1, 5)]
        for many in (3, 2, 1, 0):
            watcher.undo()
            self.assertEqual([watcher.observed(), watcher.shapes_left()], [log[:many], numbers[many]])
        for _ in range(2):
            self.assert_refused(EmptyHistory, None, watcher.undo)
        for many in (1, 2, 3, 4):
            watcher.redo()
            self.assertEqual([watcher.observed(), watcher.shapes_left()], [log[:many], numbers[many]])
        for _ in range(2):
            self.assert_refused(EmptyHistory, None, watcher.redo)
        self.assertEqual(watcher, observer_of([1, 2, 3], log))

    def test_nothing_to_redo_after_another_entry(self):
        watcher = observer_of([1, 2, 3], [(2, 1), (1, 1)])
        watcher.undo()
        watcher.undo()
        watcher.observe(3, cost=2)
        self.assert_refused(EmptyHistory, None, watcher.redo)
        self.assertEqual(watcher.observed(), [(3, 2)])
        watcher.undo()
        watcher.redo()
        self.assertEqual(watcher.observed(), [(3, 2)])
        self.assert_refused(EmptyHistory, None, watcher.redo)

    def test_nothing_to_redo_at_first(self):
        self.assert_refused(EmptyHistory, None, Observer([1]).redo)
        self.assert_refused(EmptyHistory, None, observer_of([1], [(1, 0)]).redo)

    def test_a_changed_log_allows_what_contradicted_it(self):
        watcher = observer_of([1, 2], [(1, 1)])
        self.assert_refused(Contradiction, 1, watcher.observe, 2, cost=0)
        watcher.undo()
        self.assertEqual(watcher.observe(2), 1)

    def test_against_plain_lists(self):
        rng = random.Random(42)
        for keys in LISTS[1:6]:
            watcher = Observer(keys)
            log, later = [], []
            for _ in range(150):
                word = rng.choice(("observe", "observe", "undo", "redo"))
                if word == "undo" and log:
                    watcher.undo()
                    later.append(log.pop())
                elif word == "redo" and later:
                    watcher.redo()
                    log.append(later.pop())
                elif word == "observe" and len(log) < 60:
                    key = rng.choice(keys)
                    cost = rng.choice(next_costs(keys, log, key))[0]
                    watcher.observe(key, cost=cost)
                    log.append((key, cost))
                    later.clear()
                else:
                    continue
                self.assertEqual(state_of(watcher)[1:3], (log, later[::-1]))


class Forecasts(RefusalCase):

    def test_against_next_costs_also_behind_undo_and_redo(self):
        rng = random.Random(43)
        for keys in LISTS[1:] + [TWELVE]:
            log = random_log(rng, keys, 5)
            watcher = observer_of(keys, log)
            moves = [watcher.undo] * 3 + [watcher.redo] * 2
            for many, move in zip((4, 3, 2, 3, 4), moves):
                move()
                answers = {key: watcher.forecast(key) for key in keys}
                self.assertEqual(answers, {key: next_costs(keys, log[:many], key) for key in keys})
                certain = watcher.certain_keys()
                self.assertEqual(certain, [key for key in keys if len(answers[key]) == 1])
                self.assertLessEqual({key for key, cost in log[:many]}, set(certain))
                self.assertEqual(watcher.example(), find_shape(keys, log[:many]))

    def test_certain_keys_that_were_not_touched(self):
        watcher = observer_of([1, 2, 3], [(2, 1)])
        self.assertEqual(watcher.certain_keys(), [1, 2, 3])
        self.assertEqual(Observer([5]).certain_keys(), [5])
        self.assertEqual(Observer([5, 6]).certain_keys(), [])

    def test_a_missing_key(self):
        watcher = observer_of([1, 2, 3], [(2, 1)])
        for key in (0, 4, -2, 10 ** 30):
            self.assert_refused(NoKey, key, watcher.forecast, key)
        self.assert_refused(NoKey, 0, Observer([]).forecast, key=0)

    def test_behind_sixty_entries(self):
        watcher = observer_of([1, 2, 3], [(2, 1)] + [(2, 0)] * 59)
        self.assertEqual([watcher.forecast(2), watcher.forecast(key=1)], [[(0, 2)], [(1, 2)]])
        self.assertEqual(watcher.certain_keys(), [1, 2, 3])


class EqualityAndCopies(RefusalCase):

    def test_equal_observers(self):
        one = observer_of([1, 2, 3], [(2, 1)])
        other = observer_of((1, 2, 3), [(2, 1)])
        self.assertTrue(one == other)
        self.assertFalse(one != other)
        other.observe(1, cost=1)
        self.assertFalse(one == other)
        self.assertTrue(one != other)
        other.undo()
        self.assertTrue(one == other)

    def test_different_keys_or_logs(self):
        one = observer_of([1, 2, 3], [(2, 1)])
        for other in (
                observer_of([1, 2, 4], [(2, 1)]), observer_of([1, 2, 3, 4], [(2, 1)]), observer_of([1, 2, 3], [(2, 0)]),
                observer_of([1, 2, 3], [(1, 1)]), observer_of([1, 2, 3], [(2, 1), (2, 0)]), Observer([1, 2, 3])):
            self.assertFalse(one == other)
            self.assertFalse(other == one)
        self.assertFalse(Observer([]) == Observer([1]))

    def test_an_observer_is_equal_to_nothing_else(self):
        class Likeness:
            known, entries, removed = [1], [], []

        for other in (None, [], (), 0, [1], "Observer(1 keys, 0 touches)", ([1], []), Likeness()):
            self.assertIs(Observer([1]) == other, False)
            self.assertIs(Observer([1]) != other, True)

    def test_repr_and_length(self):
        watcher = observer_of([1], [(1, 0)])
        self.assertEqual([repr(watcher), len(watcher)], ["Observer(1 keys, 1 touches)", 1])
        watcher.undo()
        self.assertEqual([repr(watcher), len(watcher)], ["Observer(1 keys, 0 touches)", 0])

    def test_twins_are_independent(self):
        one = observer_of([1, 2, 3], [(2, 1), (1, 1), (3, 2)])
        one.undo()
        before = state_of(one)
        twin = one.twin()
        self.assertEqual(state_of(twin), before)
        self.assertIsNot(twin, one)
        twin.redo()
        twin.undo()
        twin.undo()
        self.assertEqual(state_of(one), before)
        twin.observe(3, cost=1)
        self.assertEqual(state_of(one), before)
        kept = state_of(twin)
        one.redo()
        self.assertEqual(one.observed(), [(2, 1), (1, 1), (3, 2)])
        for _ in range(3):
            one.undo()
        one.observe(1)
        self.assertEqual(state_of(twin), kept)
        self.assert_refused(EmptyHistory, None, twin.redo)

    def test_the_entries_to_redo_are_no_part_of_equality(self):
        one = observer_of([1, 2, 3], [(2, 1), (1, 1)])
        one.undo()
        self.assertTrue(one == observer_of([1, 2, 3], [(2, 1)]))

    def test_changing_lists_changes_nothing(self):
        keys = [1, 2, 3]
        watcher = Observer(keys)
        keys.append(4)
        keys[0] = 0
        watcher.observe(2, cost=1)
        before = state_of(watcher)
        watcher.universe_keys().append(9)
        watcher.observed().clear()
        watcher.forecast(1).clear()
        watcher.certain_keys().clear()
        self.assertEqual(state_of(watcher), before)
        self.assertEqual(before[:2], ([1, 2, 3], [(2, 1)]))
        self.assertEqual([watcher.forecast(1), watcher.certain_keys()], [[(1, 2)], [1, 2, 3]])

    def test_questions_change_nothing(self):
        watcher = observer_of([1, 2, 3], [(2, 1), (1, 1)])
        watcher.undo()
        before = state_of(watcher)
        for _ in range(2):
            watcher.example()
            watcher.forecast(1)
            watcher.certain_keys()
            watcher.shapes_left()
            self.assertEqual(state_of(watcher), before)


if __name__ == "__main__":
    unittest.main()
