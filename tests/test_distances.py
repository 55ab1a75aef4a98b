"""Needed keys, shortest lists of touches and certificates, compared with a search through all shapes."""

import itertools
import math
import random
import unittest

from touchtrees.distances import count_shortest, needed_keys, needed_paper, paper_holds, shortest_history
from touchtrees.errors import KeysDiffer

import trees
from refusals import RefusalCase

QUESTIONS = (needed_keys, shortest_history, count_shortest, needed_paper)
SHORT_LISTS = ([], [0], [-1, 0], [-4, 0, 3], [-4, -1, 0, 3], [-4, -1, 0, 3, 9])


def moves_of(all_trees):
    """A dict from each tree to a dict from each of its keys to the tree after its touch."""
    return {tree: {key: trees.touched(tree, key)[0] for key in trees.keys_of(tree)} for tree in all_trees}


def search_from(start, moves, avoided=None):
    """A dict from each tree that can be reached to the number of touches and the number of shortest lists."""
    found = {start: (0, 1)}
    layer = [start]
    while layer:
        following = {}
        for tree in layer:
            for key, after in moves[tree].items():
                if after not in found and key != avoided:
                    following[after] = following.get(after, 0) + found[tree][1]
        steps = found[layer[0]][0] + 1
        found.update({tree: (steps, number) for tree, number in following.items()})
        layer = list(following)
    return found


def pairs_of_trees():
    """Pairs of trees over the same keys: all over up to four keys, and others with up to 40 keys."""
    found = []
    for keys in SHORT_LISTS[:5]:
        found += itertools.product(trees.all_trees(keys), repeat=2)
    rng = random.Random(16)
    for tree in trees.sample_trees():
        keys = trees.keys_of(tree)
        if len(keys) > 5:
            found += [(tree, tree), (tree, trees.random_tree(rng, keys))]
            for many in (1, 2, 5):
                found.append((tree, trees.touched_all(tree, rng.choices(keys, k=many))[0]))
    return found


PAIRS = [(one, other, trees.preorder(one), trees.preorder(other)) for one, other in pairs_of_trees()]


def expected_needed(one, other):
    """The needed keys of nested trees by their definition."""
    shape = trees.preorder(one)
    found = []
    for node, above in trees.places(other):
        inside = trees.preorder(node)
        if tuple(key for key in shape if key in inside) != inside:
            found.append(node[0])
    return sorted(found)


class Needed(RefusalCase):

    def test_examples(self):
        self.assertEqual(needed_keys((4, 2, 1, 3, 6), (2, 1, 4, 3, 6)), [2])
        self.assertEqual(shortest_history((1, 2, 3), (3, 2, 1)), [2, 3])
        self.assertEqual(count_shortest((1, 2, 3, 4), (3, 1, 2, 4)), 1)
        self.assertEqual(needed_paper((1, 2), (2, 1)), [(2, 2, 1)])

    def test_against_a_search_through_all_shapes(self):
        for keys in SHORT_LISTS:
            moves = moves_of(trees.all_trees(keys))
            for one in moves:
                found = search_from(one, moves)
                for other in moves:
                    shapes = trees.preorder(one), trees.preorder(other)
                    steps, number = found[other]
                    self.assertEqual(len(needed_keys(*shapes)), steps)
                    self.assertEqual(len(shortest_history(*shapes)), steps)
                    self.assertEqual(count_shortest(*shapes), number)

    def test_no_list_without_a_needed_key_leads_there(self):
        for keys in SHORT_LISTS[:5]:
            moves = moves_of(trees.all_trees(keys))
            for one, avoided in itertools.product(moves, keys):
                found = search_from(one, moves, avoided)
                for other in moves:
                    needed = needed_keys(trees.preorder(one), trees.preorder(other))
                    self.assertEqual(avoided in needed, other not in found)

    def test_needed_keys_by_their_definition(self):
        for one, other, start, end in PAIRS:
            found = needed_keys(start, end)
            self.assertEqual(found, expected_needed(one, other))
            self.assertIs(type(found), list)

    def test_shortest_lists_lead_there(self):
        for one, other, start, end in PAIRS:
            found = shortest_history(start, end)
            self.assertIs(type(found), list)
            self.assertEqual(trees.touched_all(one, found)[0], other)
            self.assertEqual(sorted(found), expected_needed(one, other))

    def test_numbers_of_shortest_lists_against_subtree_sizes(self):
        for one, other, start, end in PAIRS:
            needed = expected_needed(one, other)
            product = 1
            for node, above in trees.places(other):
                if node[0] in needed:
                    product *= len([key for key in trees.preorder(node) if key in needed])
            self.assertEqual(count_shortest(start, end) * product, math.factorial(len(needed)))

    def test_equal_shapes(self):
        for tree in trees.sample_trees():
            shape = trees.preorder(tree)
            answers = [question(shape, shape) for question in QUESTIONS]
            self.assertEqual(answers, [[], [], 1, []])

    def test_the_other_way_round(self):
        self.assertEqual(needed_keys((2, 1, 4, 3, 6), (4, 2, 1, 3, 6)), [4])
        self.assertEqual(needed_keys((1, 2, 3), (3, 2, 1)), [2, 3])
        self.assertEqual(needed_keys((3, 2, 1), (1, 2, 3)), [1, 2])

    def test_chains_of_forty_keys(self):
        chain = tuple(range(1, 41))
        self.assertEqual(needed_keys(chain, chain[::-1]), list(range(2, 41)))
        self.assertEqual(shortest_history(chain, chain[::-1]), list(range(2, 41)))
        self.assertEqual(count_shortest(chain, chain[::-1]), 1)

    def test_keys_that_only_one_of_the_shapes_has(self):
        for one, other, key in (
                ((1,), (), 1), ((), (1,), 1), ((1, 2), (1, 3), 2), ((1, 3), (1, 2), 2), ((5, 0), (5, -1), -1),
                ((0,), (), 0), ((2, 1, 3), (2, 1), 3), ((2, 1), (2, 1, 3), 3), ((9, 8, 7), (1, 2, 3), 1),
                (tuple(range(40)), tuple(range(1, 41)), 0), ((3, 1, 10), (10, 4), 1)):
            for question in QUESTIONS:
                self.assert_refused(KeysDiffer, key, question, one, other)
            for paper in ([], [(1, 1, 1)], [(10 ** 30, -5, 3)], ()):
                self.assert_refused(KeysDiffer, key, paper_holds, one, other, paper)

    def test_repeated_calls_return_equal_results(self):
        for one, other, start, end in PAIRS[::9]:
            for question in QUESTIONS:
                self.assertEqual(question(start, end), question(tuple(list(start)), tuple(list(end))))

    def test_the_lists_are_new_ones(self):
        for question, answer in (
                (needed_keys, [2, 3]), (shortest_history, [2, 3]), (needed_paper, needed_paper((1, 2, 3), (3, 2, 1)))):
            question((1, 2, 3), (3, 2, 1)).clear()
            self.assertEqual(question((1, 2, 3), (3, 2, 1)), answer)
            self.assertEqual(len(answer), 2)
            question((1,), (1,)).append(5)
            self.assertEqual(question((1,), (1,)), [])

    def test_arguments_by_keyword(self):
        answers = [question(other=(2, 1), one=(1, 2)) for question in QUESTIONS]
        self.assertEqual(answers, [[2], [2], 1, [(2, 2, 1)]])
        self.assertIs(paper_holds(paper=[(2, 2, 1)], other=(2, 1), one=(1, 2)), True)


class Papers(RefusalCase):

    def test_example(self):
        answers = [
            paper_holds((1, 2), (2, 1), [(2, 2, 1)]), paper_holds((1, 2), (2, 1), [(1, 2, 1)]),
            paper_holds((1, 2), (2, 1), [])]
        self.assertEqual(answers, [True, False, True])

    def test_papers_have_a_correct_triple_for_each_needed_key(self):
        for one, other, start, end in PAIRS:
            paper = needed_paper(start, end)
            self.assertIs(type(paper), list)
            self.assertEqual([triple[0] for triple in paper], expected_needed(one, other))
            inside = {node[0]: trees.preorder(node) for node, above in trees.places(other)}
            before, after = trees.pairs_above(one), trees.pairs_above(other)
            for triple in paper:
                self.assertIs(type(triple), tuple)
                key, above, below = triple
                self.assertIn(above, inside[key])
                self.assertIn(below, inside[key])
                self.assertIn((above, below), after)
                self.assertNotIn((above, below), before)

    def test_parts_rearranged_and_repeated_triples_hold(self):
        for one, other, start, end in PAIRS[::2]:
            paper = needed_paper(start, end)
            for rows in (paper, paper[::-1], paper[1:], paper[::2], paper * 3, paper[:1] * 5, []):
                self.assertIs(paper_holds(start, end, rows), True)
                self.assertIs(paper_holds(start, end, tuple(rows)), True)

    def test_every_triple_over_short_lists(self):
        for one, other, start, end in PAIRS:
            if len(start) > 3:
                continue
            inside = {node[0]: trees.preorder(node) for node, above in trees.places(other)}
            right = trees.pairs_above(other) - trees.pairs_above(one)
            for key, above, below in itertools.product(list(start) + [1, 10 ** 30], repeat=3):
                part = inside.get(key, ())
                expected = (above, below) in right and above in part and below in part
                self.assertIs(paper_holds(start, end, [(key, above, below)]), expected)

    def test_triples_in_larger_shapes(self):
        rng = random.Random(17)
        for one, other, start, end in PAIRS:
            if len(start) < 6:
                continue
            inside = {node[0]: trees.preorder(node) for node, above in trees.places(other)}
            right = trees.pairs_above(other) - trees.pairs_above(one)
            for _ in range(20):
                key, above, below = rng.choice(start[:4] + end[:4]), rng.choice(end[:5]), rng.choice(start)
                expected = (above, below) in right and above in inside[key] and below in inside[key]
                self.assertIs(paper_holds(start, end, [(key, above, below)]), expected)

    def test_one_wrong_triple_is_enough(self):
        start, end = (4, 2, 1, 3, 6), (2, 1, 6, 4, 3)
        paper = needed_paper(start, end)
        self.assertEqual(len(paper), 2)
        for wrong in (
                (2, 4, 2), (2, 2, 2), (1, 2, 4), (4, 6, 4), (6, 2, 4), (2, 1, 3), (2, 2, 5), (2, 5, 4), (5, 2, 4),
                (2, 2, 10 ** 30), (10 ** 30, 2, 4), (2, -10 ** 30, 4), (2, 2, 1), (6, 4, 3)):
            for rows in ([wrong], paper + [wrong], [wrong] + paper, paper[:1] + [wrong] + paper[1:]):
                self.assertIs(paper_holds(start, end, rows), False, wrong)
        self.assertIs(paper_holds(start, end, [(2, 2, 4), (2, 6, 4), (6, 6, 4)]), True)

    def test_arguments_are_not_modified(self):
        paper = [(2, 2, 1), (2, 2, 1)]
        self.assertIs(paper_holds((1, 2), (2, 1), paper), True)
        self.assertEqual(paper, [(2, 2, 1), (2, 2, 1)])


if __name__ == "__main__":
    unittest.main()
