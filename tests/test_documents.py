"""Texts of stores, compared with rows that are judged one by one."""

import random
import re
import unittest

from touchtrees.documents import format_store, parse_store
from touchtrees.errors import ParseError
from touchtrees.store import Store

import trees
from refusals import RefusalCase

NAMES = ("a", "ab", "abc", "elm", "oak", "z", "zzzzzz")
ROW = re.compile("tree [a-z]{1,6}( (0|-?[1-9][0-9]{0,30}))*")


def is_preorder(keys):
    """Whether keys are in the preorder of the tree that they form one after another."""
    tree = None
    for key in keys:
        tree = trees.insert_leaf(tree, key)
    return trees.preorder(tree) == tuple(keys) and len(set(keys)) == len(keys)


def first_wrong(text):
    """The index of the first row that is not right, or None."""
    rows = text.split("\n")
    before = ""
    for pos, row in enumerate(rows[:-1]):
        if not ROW.fullmatch(row) or pos == 6:
            return pos
        _, name, *keys = row.split(" ")
        keys = [int(key) for key in keys]
        if name <= before or len(keys) > 40 or any(abs(key) > 10 ** 9 for key in keys) or not is_preorder(keys):
            return pos
        before = name
    return None if rows[-1] == "" else len(rows) - 1


def random_store(rng):
    """A store with up to six trees, and a few steps and watches."""
    store = Store()
    for name in rng.sample(NAMES, rng.randrange(7)):
        spread = rng.choice((10, 100, 10 ** 9))
        store.apply(("new", name, rng.sample(range(-spread, spread), rng.choice((0, 1, 2, 5, 9)))))
        for key in store.shape_of(name)[:2]:
            store.apply(("touch", name, key))
    if rng.random() < 0.5:
        store.watch("oak", 1)
    return store


def shapes_in(text):
    """The names and shapes of a right text."""
    rows = [row.split(" ") for row in text.split("\n")[:-1]]
    return {name: tuple(int(key) for key in keys) for _, name, *keys in rows}


class DocumentCase(RefusalCase):

    def assert_read(self, text):
        """The text is read, and the store has nothing but its trees."""
        store = parse_store(text)
        self.assertIs(type(store), Store)
        self.assertEqual({name: store.shape_of(name) for name in store.names()}, shapes_in(text))
        self.assertEqual([store.steps(), store.total_cost(), store.watched(), store.news()], [(0, 0), 0, [], []])
        self.assertEqual(store.watch("oak", 1), 1)
        self.assertEqual(format_store(store), text)

    def assert_judged(self, text):
        pos = first_wrong(text)
        if pos is None:
            self.assert_read(text)
        else:
            self.assert_refused(ParseError, pos, parse_store, text)
        return pos


class Formatting(DocumentCase):

    def test_examples(self):
        store = Store()
        store.apply_all([("new", "oak", (2, 1, 3)), ("new", "elm", ())])
        self.assertEqual(format_store(store), "tree elm\ntree oak 2 1 3\n")

    def test_the_empty_store(self):
        self.assertEqual(format_store(Store()), "")
        self.assertEqual(len(parse_store("")), 0)
        self.assert_read("")

    def test_each_is_the_inverse_of_the_other(self):
        rng = random.Random(80)
        for _ in range(100):
            store = random_store(rng)
            told = [store.steps(), store.total_cost(), store.watched()]
            text = format_store(store)
            rows = [" ".join(["tree", name] + [str(key) for key in store.shape_of(name)]) for name in store.names()]
            self.assertEqual(text, "".join([row + "\n" for row in rows]))
            self.assertEqual([store.steps(), store.total_cost(), store.watched()], told)
            self.assertEqual(parse_store(text), store)
            self.assert_read(text)

    def test_arguments_by_keyword(self):
        self.assertEqual(format_store(store=parse_store(text="tree a 1\n")), "tree a 1\n")


class Parsing(DocumentCase):

    def test_examples(self):
        self.assertEqual(parse_store("tree elm\ntree oak 2 1 3\n").names(), ["elm", "oak"])
        self.assert_refused(ParseError, 1, parse_store, "tree oak 1 3 2\ntree elm 1\n")

    def test_the_store_can_be_used(self):
        store = parse_store("tree oak 2 1 3\n")
        self.assertEqual(store.apply(("touch", "oak", 3)), 1)
        self.assertEqual([store.steps(), store.total_cost()], [(1, 0), 1])
        store.undo()
        self.assertEqual([store.shape_of("oak"), store.total_cost()], [(2, 1, 3), 0])

    def test_six_rows_and_seven(self):
        rows = [f"tree {name}\n" for name in NAMES]
        for many in range(7):
            self.assert_read("".join(rows[:many]))
        self.assert_refused(ParseError, 6, parse_store, "".join(rows))
        self.assert_refused(ParseError, 6, parse_store, "".join(rows) + "nonsense\n")
        self.assert_refused(ParseError, 6, parse_store, "".join(rows)[:-1])
        self.assert_refused(ParseError, 3, parse_store, "".join(rows[:3] + ["x\n"] + rows[3:]))

    def test_forty_keys_and_forty_one(self):
        for many in (39, 40):
            self.assert_read("tree a\ntree b " + " ".join(str(key) for key in range(many)) + "\n")
        for many in (41, 42, 100):
            text = "tree a\ntree b " + " ".join(str(key) for key in range(many)) + "\n"
            self.assert_refused(ParseError, 1, parse_store, text)

    def test_keys_at_their_limits_and_outside(self):
        limit = 10 ** 9
        self.assert_read(f"tree a {limit}\ntree b {-limit} 0\n")
        for number in (limit + 1, -limit - 1, 10 ** 30, 10 ** 31 - 1, 10 ** 31, -10 ** 31, 10 ** 32):
            self.assert_refused(ParseError, 0, parse_store, f"tree a {number}\ntree b\n")
            self.assert_refused(ParseError, 1, parse_store, f"tree a\ntree b {number}\n")

    def test_integers_and_shapes(self):
        for worth in (
                "00", "01", "-0", "+1", "--1", "-", "x", "1.0", "1 1", "2 1 3 1", "4 2 6 3", "2 3 1", "1  2", "1 ", " 1",
                "1,2", "1_0", "2*(1)", ""):
            self.assert_refused(ParseError, 0, parse_store, f"tree a {worth}\n")
            self.assert_refused(ParseError, 1, parse_store, f"tree a 1\ntree b {worth}\ntree c 00\n")

    def test_words_and_names(self):
        for row in (
                "tree", "tree ", "a", "Tree a", "trees a", "tre a", " tree a", "tree  a", "tree a ", "tree Oak", "tree 1",
                "tree sevenly", "tree a-b", "treea", "tree\ta", "", " ", "tree a b", "# tree a", "tree oak2 1"):
            self.assert_refused(ParseError, 0, parse_store, row + "\n")
            self.assert_refused(ParseError, 1, parse_store, f"tree a\n{row}\ntree c\n")

    def test_a_missing_line_feed_and_empty_rows(self):
        for text, pos in (
                ("tree a", 0), ("tree a\ntree b", 1), ("tree a\ntree b 1 2", 1), ("\n", 0), ("\n\n", 0), ("tree a\n\n", 1),
                ("\ntree a\n", 0), ("tree a\n\ntree b\n", 1), ("tree a\nx", 1), ("tree a\n ", 1), ("x", 0), (" ", 0)):
            self.assert_refused(ParseError, pos, parse_store, text)

    def test_names_that_do_not_ascend(self):
        for text, pos in (
                ("tree b\ntree a\n", 1), ("tree a\ntree a\n", 1), ("tree a\ntree b\ntree ab\n", 2),
                ("tree ab\ntree a\n", 1), ("tree a\ntree c\ntree b\ntree d\n", 2)):
            self.assert_refused(ParseError, pos, parse_store, text)
        self.assert_read("tree a\ntree ab\ntree b\ntree ba\n")

    def test_rows_removed_doubled_exchanged_and_inserted(self):
        rng = random.Random(81)
        wrong = 0
        for _ in range(300):
            rows = format_store(random_store(rng)).splitlines(keepends=True) or ["tree a\n"]
            at, to = rng.randrange(len(rows)), rng.randrange(len(rows))
            changed = list(rows)
            changed[at], changed[to] = rows[to], rows[at]
            for form in (
                    rows[:at] + rows[at + 1:], rows[:at] + [rows[to]] + rows[at:], changed,
                    rows[:at] + [rng.choice(("tree m 1\n", "tree zzz\n", "\n", "row\n"))] + rows[at:]):
                wrong += self.assert_judged("".join(form)) is not None
        self.assertGreater(wrong, 300)

    def test_one_or_two_characters_changed(self):
        rng = random.Random(82)
        answers = [0, 0]
        texts = [format_store(random_store(rng)) for _ in range(40)]
        for _ in range(4000):
            text = rng.choice(texts)
            for _ in range(rng.choice((1, 2))):
                at = rng.randrange(len(text) + 1)
                sign = rng.choice("0123456789-  \n\naetzTx")
                text = rng.choice((text[:at] + text[at + 1:], text[:at] + sign + text[at + rng.randrange(2):]))
            answers[self.assert_judged(text) is None] += 1
        self.assertGreater(min(answers), 500)


if __name__ == "__main__":
    unittest.main()
