"""Shapes that are put together at a key, compared with all nested trees."""

import unittest

from touchtrees.spines import free_table, joined_pairs, joined_spines, joined_table, spine_pairs

import trees


def expected_numbers(found):
    """A dict from each pair of spine lengths of some trees to the number of the trees that have it."""
    numbers = {}
    for tree in found:
        pair = (len(trees.spine(tree, 1)), len(trees.spine(tree, 2)))
        numbers[pair] = numbers.get(pair, 0) + 1
    return numbers


class Tables(unittest.TestCase):

    def check_table(self, table, found):
        self.assertEqual({pair: table[pair][0] for pair in table}, expected_numbers(found))
        shapes = {trees.preorder(tree): expected_numbers([tree]) for tree in found}
        for pair in table:
            self.assertEqual(shapes[table[pair][1]], {pair: 1})

    def test_tables_of_all_trees(self):
        for size in range(9):
            keys = list(range(-2, size - 2))
            self.check_table(free_table(keys), trees.all_trees(keys))

    def test_trees_in_which_a_key_has_a_depth(self):
        for size in range(1, 8):
            keys = list(range(-2, size - 2))
            everything = trees.all_trees(keys)
            for at, key in enumerate(keys):
                for depth in range(-1, size + 1):
                    found = [tree for tree in everything if trees.touched(tree, key)[1] == depth]
                    table = joined_table(free_table(keys[:at]), key, free_table(keys[at + 1:]), depth)
                    self.check_table(table, found)

    def test_pairs_of_spine_lengths_of_all_trees(self):
        for size in range(9):
            found = expected_numbers(trees.all_trees(list(range(size))))
            self.assertEqual(spine_pairs(size), sorted(found))

    def test_pairs_without_the_numbers_of_ways(self):
        for inner in range(5):
            for outer in range(5):
                for depth in list(range(-2, 11)) + [-10 ** 30, 10 ** 30]:
                    smaller, greater = (3, inner), (outer, 7)
                    pairs = joined_pairs(smaller, greater, depth)
                    found = {pair for pair, ways, path in joined_spines(smaller, greater, depth)}
                    self.assertEqual(sorted(pairs), sorted(found))

    def test_the_greatest_free_table(self):
        table = free_table(list(range(12)))
        self.assertEqual(sum(number for number, shape in table.values()), 208012)


if __name__ == "__main__":
    unittest.main()
