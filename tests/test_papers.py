"""Certificates of logs, compared with all shapes and with the rules for tables, pair by pair."""

import copy
import itertools
import random
import unittest
from collections import Counter

from touchtrees.papers import log_paper, log_paper_holds

import trees
from logs import LISTS, LOGS, NO_LOGS, TWELVE, agreeing, expected_conflicts, expected_gaps, random_log
from refusals import RefusalCase

ALL_PAIRS = list(itertools.product(range(61), repeat=2))


def joined(smaller, greater, depth):
    """The set of the pairs that two pairs of spine lengths give together, as the document says it."""
    (left, inner), (outer, right) = smaller, greater
    found = set()
    for low in range(inner + 1):
        high = depth - low
        if not 0 <= high <= outer:
            continue
        if low and high:
            found |= {(left, first + right) for first in range(1, low + 1)}
            found |= {(first + left, right) for first in range(1, high + 1)}
        else:
            found.add((left if low else high + 1 + left, right if high else low + 1 + right))
    return found


def pairs_over(size):
    """The set of the pairs of spine lengths of all trees over so many keys."""
    found = trees.all_trees(list(range(size)))
    return {(len(trees.spine(tree, 1)), len(trees.spine(tree, 2))) for tree in found}


PAIRS_OVER = [pairs_over(size) for size in range(9)]


def rows_from(gaps, low, high):
    """The gaps of the rows of a table, each with the split key and its depth, or None for both."""
    for at_low, at_high, key, depth in gaps:
        if (at_low, at_high) == (low, high):
            return [(low, high, key, depth)] + rows_from(gaps, low, key) + rows_from(gaps, key, high)
    return [(low, high, None, None)]


def keys_between(keys, low, high):
    return [key for key in keys if (low is None or low < key) and (high is None or key < high)]


def needed_pairs(keys, listed, row):
    """The set of the pairs that the row of a gap needs, given a dict from all later gaps to their pairs."""
    low, high, key, depth = row
    if key is None:
        return PAIRS_OVER[len(keys_between(keys, low, high))]
    both = itertools.product(listed[(low, key)], listed[(key, high)])
    return set().union(*[joined(smaller, greater, depth) for smaller, greater in both])


def table_is_right(keys, log, rows):
    """Whether a table follows the rules; a gap that is never split has at most eight keys."""
    expected = rows_from(expected_gaps(keys, log), None, None)
    if [(low, high) for low, high, key, depth in expected] != [(low, high) for low, high, pairs in rows]:
        return False
    listed = {(low, high): set(pairs) for low, high, pairs in rows}
    if not all(needed_pairs(keys, listed, row) <= listed[row[:2]] for row in expected):
        return False
    return not listed[(None, None)]


def table_with_more(keys, log, rng):
    """A table in which each row but the first one, which lists no pair, has what it needs and a few pairs more."""
    expected = rows_from(expected_gaps(keys, log), None, None)
    listed = {}
    for row in expected[::-1]:
        further = [(rng.randrange(4), rng.randrange(4)) for _ in range(rng.randrange(3))]
        listed[row[:2]] = needed_pairs(keys, listed, row) | set(further)
    rows = [row[:2] + (rng.sample(sorted(listed[row[:2]]), len(listed[row[:2]])),) for row in expected]
    return [(None, None, [])] + rows[1:]


def logs_with(word):
    """The pairs (keys, log) whose certificate has a word."""
    return [(keys, log) for keys, log in LOGS if log_paper(keys, log)[0] == word]


def with_row(rows, at, row):
    return rows[:at] + [row] + rows[at + 1:]


class LogPaper(RefusalCase):

    def check_table_size(self, rows):
        self.assertIs(type(rows), list)
        for row in rows:
            self.assertIs(type(row), tuple)
            low, high, pairs = row
            self.assertIs(type(pairs), list)
            self.assertLessEqual(len(pairs), 100)
            for left, right in pairs:
                self.assertTrue(0 <= left <= 60 and 0 <= right <= 60)

    def test_examples(self):
        self.assertEqual(log_paper([1, 2], [(1, 1), (2, 0)]), ("conflict", 1))
        rows = [(None, None, []), (None, 1, [(0, 0)]), (1, None, [(1, 1)])]
        self.assertEqual(log_paper([1, 2], [(1, 2)]), ("table", rows))

    def test_against_all_shapes(self):
        words = Counter()
        for keys, log in LOGS:
            word, worth = paper = log_paper(keys, log)
            self.assertIs(type(paper), tuple)
            words[word] += 1
            shapes = [trees.preorder(tree) for tree in agreeing(keys, log)]
            conflicts = expected_conflicts(keys, log)
            if shapes:
                self.assertEqual(word, "shape")
                self.assertIn(worth, shapes)
            elif conflicts:
                self.assertEqual(paper, ("conflict", conflicts[0]))
            else:
                self.assertEqual(word, "table")
                self.check_table_size(worth)
                self.assertTrue(table_is_right(keys, log, worth))
            self.assertIs(log_paper_holds(keys, log, paper), True)
        self.assertGreater(min(words[word] for word in ("shape", "conflict", "table")), 50)

    def test_every_log_of_two_entries_over_three_keys(self):
        keys = LISTS[3]
        for entries in itertools.product(itertools.product(keys, range(4)), repeat=2):
            log = list(entries)
            word, worth = log_paper(keys, log)
            conflicts = expected_conflicts(keys, log)
            expected = "shape" if agreeing(keys, log) else "conflict" if conflicts else "table"
            self.assertEqual(word, expected)
            self.assertTrue(log_paper_holds(keys, log, (word, worth)))

    def test_conflicts_of_both_kinds(self):
        keys = [1, 2, 3]
        self.assertEqual(log_paper(keys, [(2, 1), (2, 1)]), ("conflict", 1))
        self.assertEqual(log_paper(keys, [(2, 1), (2, 0), (1, 1), (2, 0)]), ("conflict", 3))
        self.assertEqual(log_paper(keys, [(2, 0), (1, 0)]), ("conflict", 1))
        self.assertEqual(log_paper(keys, [(1, 0), (3, 1), (2, 1)]), ("conflict", 2))
        self.assertEqual(log_paper(keys, [(2, 9), (2, 9), (1, 0)]), ("conflict", 1))

    def test_a_cost_that_is_too_great_is_no_conflict(self):
        for cost in (3, 4, 61, 10 ** 30):
            self.assertEqual(log_paper([1, 2, 3], [(2, cost)])[0], "table")
            self.assertEqual(log_paper([1, 2, 3], [(2, cost), (1, cost)])[0], "table")

    def test_no_entries(self):
        self.assertEqual(log_paper([], []), ("shape", ()))
        for keys in LISTS + [TWELVE]:
            word, shape = log_paper(keys, [])
            self.assertEqual([word, sorted(shape)], ["shape", keys])

    def test_twelve_keys_with_up_to_sixty_entries(self):
        rng = random.Random(30)
        words = Counter()
        for many in [1, 2, 3, 5, 8, 12, 20, 30, 60] * 12:
            log = random_log(rng, TWELVE, many)
            self.assertEqual(log_paper(TWELVE, log)[0], "shape")
            changed = list(log)
            at = rng.randrange(min(many, 6))
            changed[at] = (log[at][0], rng.randrange(13))
            for given in (log, changed):
                word, worth = log_paper(TWELVE, given)
                words[word] += 1
                self.assertTrue(log_paper_holds(TWELVE, given, (word, worth)))
                if word == "conflict":
                    self.assertEqual(worth, expected_conflicts(TWELVE, given)[0])
                if word == "table":
                    self.check_table_size(worth)
        self.assertGreater(min(words[word] for word in ("shape", "conflict", "table")), 10)

    def test_a_log_that_touches_all_of_twelve_keys(self):
        for cost in (12, 60, 10 ** 30):
            log = [(key, cost) for key in TWELVE]
            word, rows = log_paper(TWELVE, log)
            self.assertEqual([word, len(rows)], ["table", 25])
            self.assertTrue(log_paper_holds(TWELVE, log, (word, rows)))
            self.assertTrue(table_is_right(TWELVE, log, rows))


class PaperShapes(RefusalCase):

    def test_all_shapes_over_the_keys(self):
        for keys, log in LOGS[::2]:
            right = [trees.preorder(tree) for tree in agreeing(keys, log)]
            for tree in trees.all_trees(keys):
                shape = trees.preorder(tree)
                self.assertIs(log_paper_holds(keys, log, ("shape", shape)), shape in right)

    def test_tuples_that_are_no_shapes_over_the_keys(self):
        keys = [1, 2, 3]
        for shape in (
                (), (1, 2), (2, 1), (1, 2, 3, 4), (2, 1, 4), (0, 1, 2), (1, 2, 2), (1, 1, 2, 3), (2, 2, 1, 3),
                (2, 3, 1), (1, 2, 3, 3), (10 ** 30,), (2, 1, 10 ** 30), (4, 5, 6)):
            self.assertIs(log_paper_holds(keys, [], ("shape", shape)), False, shape)
            self.assertIs(log_paper_holds(keys, [(2, 0)], ("shape", shape)), False, shape)
        self.assertIs(log_paper_holds([], [], ("shape", ())), True)
        self.assertIs(log_paper_holds([], [], ("shape", (1,))), False)

    def test_every_order_of_four_keys(self):
        keys = LISTS[4]
        shapes = [trees.preorder(tree) for tree in trees.all_trees(keys)]
        for order in itertools.permutations(keys):
            self.assertIs(log_paper_holds(keys, [], ("shape", order)), order in shapes)


class PaperConflicts(RefusalCase):

    def test_every_index_inside_and_outside(self):
        behind = 0
        for keys, log in LOGS:
            right = expected_conflicts(keys, log)
            behind += len(right) > 1
            for pos in list(range(-len(log) - 2, len(log) + 3)) + [-10 ** 30, 10 ** 30]:
                self.assertIs(log_paper_holds(keys, log, ("conflict", pos)), pos in right, (log, pos))
        self.assertGreater(behind, 20)

    def test_behind_entries_whose_costs_are_wrong(self):
        log = [(2, 9), (2, 9), (1, 0), (3, 1), (1, 2), (2, 2)]
        holding = [pos for pos in range(-6, 7) if log_paper_holds([1, 2, 3], log, ("conflict", pos))]
        self.assertEqual(holding, [1, 2, 3, 4])

    def test_a_cost_that_no_shape_has_is_no_conflict(self):
        self.assertIs(log_paper_holds([1, 2], [(1, 10 ** 30)], ("conflict", 0)), False)
        self.assertIs(log_paper_holds([], [], ("conflict", 0)), False)


class OtherWords(RefusalCase):

    def test_a_right_table_under_another_word(self):
        keys, log = [1, 2], [(1, 2)]
        rows = log_paper(keys, log)[1]
        self.assertIs(log_paper_holds(keys, log, ("table", rows)), True)
        for word in ("", "Table", "tables", "table ", "rows", "none", "TABLE", "Shape", "conflicts", "None"):
            self.assertIs(log_paper_holds(keys, log, (word, rows)), False)
            self.assertIs(log_paper_holds(keys, log, (word, [])), False)


class PaperTables(RefusalCase):

    def assert_judged(self, keys, log, rows):
        expected = table_is_right(keys, log, rows)
        self.assertIs(log_paper_holds(keys, log, ("table", rows)), expected, (keys, log, rows))
        return expected

    def test_pairs_removed_added_exchanged_repeated_and_in_another_order(self):
        rng = random.Random(31)
        answers = Counter()
        for keys, log in logs_with("table"):
            rows = log_paper(keys, log)[1]
            for at, (low, high, pairs) in enumerate(rows):
                extra = rng.choice(ALL_PAIRS)
                near = (rng.randrange(len(keys) + 1), rng.randrange(len(keys) + 1))
                changes = [pairs + [extra], pairs + [near], pairs + pairs, pairs[::-1], [near], []]
                if pairs:
                    gone = rng.randrange(len(pairs))
                    changes += [
                        pairs[:gone] + pairs[gone + 1:], pairs[:gone] + [near] + pairs[gone + 1:],
                        pairs[:gone] + [extra] + pairs[gone + 1:], [(right, left) for left, right in pairs]]
                for changed in changes:
                    answers[self.assert_judged(keys, log, with_row(rows, at, (low, high, changed)))] += 1
        self.assertGreater(min(answers[True], answers[False]), 500)

    def test_each_single_pair_of_a_log_is_required_where_nothing_else_lists_it(self):
        keys, log = [1, 2, 3, 4, 5], [(3, 5)]
        rows = log_paper(keys, log)[1]
        for at in (1, 2):
            low, high, pairs = rows[at]
            self.assertEqual(sorted(pairs), [(1, 2), (2, 1)])
            for pair in pairs:
                changed = with_row(rows, at, (low, high, [other for other in pairs if other != pair]))
                self.assertIs(log_paper_holds(keys, log, ("table", changed)), False)
            self.assertIs(log_paper_holds(keys, log, ("table", with_row(rows, at, (low, high, pairs * 9)))), True)

    def test_rows_moved_doubled_left_out_and_added(self):
        rng = random.Random(32)
        for keys, log in logs_with("table"):
            rows = log_paper(keys, log)[1]
            self.assertIs(log_paper_holds(keys, log, ("table", rows)), True)
            at, to = rng.sample(range(len(rows)), 2)
            moved = rows[:at] + rows[at + 1:]
            exchanged = with_row(with_row(rows, at, rows[to]), to, rows[at])
            for changed in (
                    moved, moved[:to] + [rows[at]] + moved[to:], exchanged, rows[:at] + [rows[at]] + rows[at:],
                    rows + [rows[at]], rows + [(None, None, [])], [rows[0]] + rows, rows[1:], rows[:-1], rows[::-1],
                    rows + [(keys[0], keys[0], [(0, 0)])], [], rows[:1], (rows * 9)[:40]):
                self.assertIs(log_paper_holds(keys, log, ("table", changed)), False, changed)

    def test_rows_with_other_bounds(self):
        rng = random.Random(33)
        for keys, log in logs_with("table"):
            rows = log_paper(keys, log)[1]
            for at, (low, high, pairs) in enumerate(rows):
                for bounds in ((high, low), (low, 10 ** 30), (rng.choice(keys) + 3, high), (low, low), (0, 99)):
                    if bounds != (low, high):
                        changed = with_row(rows, at, bounds + (pairs,))
                        self.assertIs(log_paper_holds(keys, log, ("table", changed)), False)

    def test_a_first_row_with_a_pair(self):
        for keys, log in logs_with("table"):
            rows = log_paper(keys, log)[1]
            for pair in ((0, 0), (1, 1), (60, 60)):
                self.assertIs(log_paper_holds(keys, log, ("table", with_row(rows, 0, (None, None, [pair])))), False)

    def test_tables_with_further_pairs_in_every_row(self):
        rng = random.Random(35)
        answers = Counter()
        for keys, log in logs_with("table") + logs_with("conflict"):
            answers[self.assert_judged(keys, log, table_with_more(keys, log, rng))] += 1
        self.assertGreater(min(answers[True], answers[False]), 20)

    def test_no_table_holds_where_a_shape_agrees(self):
        rng = random.Random(34)
        for keys, log in logs_with("shape"):
            near = list(itertools.product(range(6), repeat=2))
            rows = table_with_more(keys, log, rng)
            full = rows[:1] + [(low, high, near) for low, high, pairs in rows[1:]]
            self.assertIs(log_paper_holds(keys, log, ("table", rows)), False)
            self.assertIs(log_paper_holds(keys, log, ("table", full)), False)

    def test_great_costs(self):
        for cost in (10, 60, 119, 120, 121, 10 ** 30):
            log = [(2, cost)]
            for inner in (0, 1, 59, 60):
                for outer in (1, 59, 60):
                    rows = [(None, None, []), (None, 2, [(1, 1), (3, inner)]), (2, None, [(1, 1), (outer, 2)])]
                    self.assert_judged([1, 2, 3], log, rows)
        rows = [(None, None, []), (None, 2, [(1, 1), (0, 60)]), (2, None, [(1, 1), (60, 0)])]
        self.assertIs(log_paper_holds([1, 2, 3], [(2, 120)], ("table", rows)), False)
        self.assertIs(log_paper_holds([1, 2, 3], [(2, 121)], ("table", rows)), True)

    def test_negative_depths(self):
        keys, log = [1, 2, 3], [(2, 1), (1, 0)]
        self.assertEqual(expected_gaps(keys, log)[1], (None, 2, 1, -1))
        empty = [(None, 1, [(0, 0)]), (1, 2, [(0, 0)]), (2, None, [(1, 1)])]
        rows = [(None, None, []), (None, 2, [])] + empty
        self.assertIs(log_paper_holds(keys, log, ("table", rows)), True)
        rows = [(None, None, []), (None, 2, [(1, 1)])] + empty
        self.assertIs(log_paper_holds(keys, log, ("table", rows)), False)

    def test_only_first_touches_are_used(self):
        keys = [1, 2, 3]
        rows = log_paper(keys, [(2, 3)])[1]
        for log in ([(2, 3), (2, 0)], [(2, 3), (2, 5), (2, 10 ** 30)]):
            self.assertIs(log_paper_holds(keys, log, ("table", rows)), True)
        agreed = [(None, None, []), (None, 2, [(1, 1)]), (2, None, [(1, 1)])]
        self.assertIs(log_paper_holds(keys, [(2, 0), (2, 5)], ("table", agreed)), False)

    def test_a_table_for_a_log_that_splits_nothing(self):
        for keys in LISTS:
            for pairs in ([], [(0, 0)], sorted(PAIRS_OVER[len(keys)])):
                self.assertIs(log_paper_holds(keys, [], ("table", [(None, None, pairs)])), False)
            self.assertIs(log_paper_holds(keys, [], ("table", [])), False)

    def test_gaps_that_are_never_split(self):
        keys = TWELVE[:9]
        for key, depth in ((keys[0], 9), (keys[4], 12), (keys[8], 10 ** 30)):
            rows = log_paper(keys, [(key, depth)])[1]
            for at in (1, 2):
                low, high, pairs = rows[at]
                size = len(keys_between(keys, low, high))
                self.assertEqual(set(pairs), PAIRS_OVER[size])
                for pair in pairs:
                    fewer = [other for other in pairs if other != pair]
                    changed = with_row(rows, at, (low, high, fewer))
                    self.assertIs(log_paper_holds(keys, [(key, depth)], ("table", changed)), False)

    def test_rows_with_a_hundred_pairs_each_over_twelve_keys(self):
        rng = random.Random(36)
        for cost in (5, 30, 60):
            log = [(key, cost) for key in rng.sample(TWELVE, 12)]
            gaps = rows_from(expected_gaps(TWELVE, log), None, None)
            rows = [(low, high, rng.sample(ALL_PAIRS, 100)) for low, high, key, depth in gaps]
            rows[0] = (None, None, [])
            self.assertIs(log_paper_holds(TWELVE, log, ("table", rows)), False)


class Arguments(RefusalCase):

    def test_every_error_and_their_order(self):
        papers = (("shape", ()), ("conflict", 0), ("table", []), ("none", []))
        for error, worth, keys, log in NO_LOGS:
            for given in ((keys, log), (tuple(keys), tuple(log))):
                self.assert_refused(error, worth, log_paper, *given)
                for paper in papers:
                    self.assert_refused(error, worth, log_paper_holds, *given, paper)

    def test_arguments_are_not_modified_and_tuples_may_be_passed(self):
        for keys, log in LOGS[::3]:
            given = copy.deepcopy((keys, log))
            word, worth = paper = log_paper(*given)
            self.assertEqual(given, (keys, log))
            self.assertEqual(log_paper(*given), paper)
            self.assertEqual(log_paper(tuple(keys), tuple(log)), paper)
            shown = copy.deepcopy(paper)
            self.assertIs(log_paper_holds(*given, shown), True)
            self.assertEqual([given, shown], [(keys, log), paper])
            if word == "table":
                paper = (word, tuple((low, high, tuple(pairs)) for low, high, pairs in worth))
            self.assertIs(log_paper_holds(tuple(keys), tuple(log), paper), True)

    def test_the_lists_are_new_ones(self):
        first = log_paper([1, 2], [(1, 2)])
        first[1][1][2].clear()
        first[1].clear()
        rows = [(None, None, []), (None, 1, [(0, 0)]), (1, None, [(1, 1)])]
        self.assertEqual(log_paper([1, 2], [(1, 2)]), ("table", rows))

    def test_arguments_by_keyword(self):
        self.assertEqual(log_paper(log=[(1, 1), (2, 0)], keys=[1, 2]), ("conflict", 1))
        answers = [
            log_paper_holds(paper=paper, log=[(1, 1)], keys=[1, 2]) for paper in (("shape", (2, 1)), ("conflict", 0))]
        self.assertEqual(answers, [True, False])


if __name__ == "__main__":
    unittest.main()
