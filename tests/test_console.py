"""The console, compared with commands and questions of its store."""

import random
import unittest
from collections import Counter

from touchtrees.console import Console
from touchtrees.errors import Missing, TreeError
from touchtrees.store import Store
from touchtrees.structure import depth_of
from touchtrees.syntax import format_history

import models

FORTY = " ".join(str(key) for key in range(100, 140))


def console_with(*lines):
    console = Console()
    for line in lines:
        answer = console.answer(line)
        assert answer.isdigit() or answer == "ok", (line, answer)
    return console


def full_console():
    """A console with six trees."""
    return console_with(
        "new oak 4 2 6 1", "new elm 8 7 9", "new ash 5 3", "new big " + FORTY, "new nil", "new b 4 2 6 1", "touch b 2")


def state_of(store):
    return [{name: store.shape_of(name) for name in store.names()}, store.steps(), store.total_cost(), store.watched()]


def line_of(command):
    """The line of a command."""
    word, name, *rest = command
    if word == "new":
        rest = [str(key) for key in rest[0]]
    elif word == "run":
        rest = [format_history(rest[0])]
    return " ".join([word, name] + [str(part) for part in rest])


class ConsoleCase(unittest.TestCase):

    def assert_kept(self, console, answer, line):
        """A line has an answer, and the store is as before."""
        before = state_of(console.store())
        self.assertEqual(console.answer(line), answer, line)
        self.assertEqual(state_of(console.store()), before, line)


class Answers(ConsoleCase):

    def test_examples(self):
        self.assertEqual(Console().answer("names"), "none")
        console = Console()
        console.answer("new oak 2 1")
        self.assertEqual(console.store().names(), ["oak"])
        console = Console()
        lines = ("new oak 2 1 3", "run oak 2*(1 3)", "show oak", "drop elm", "show  oak")
        self.assertEqual([console.answer(line) for line in lines], ["0", "5", "3 1 2", "error NoTree", "invalid"])

    def test_each_command(self):
        console = Console()
        for line, answer, shapes in (
                ("new oak 4 2 1 3 6", "0", {"oak": (4, 2, 1, 3, 6)}),
                ("touch oak 3", "2", {"oak": (3, 2, 1, 4, 6)}),
                ("insert oak -7", "3", {"oak": (-7, 3, 2, 1, 4, 6)}),
                ("remove oak -7", "0", {"oak": (3, 2, 1, 4, 6)}),
                ("run oak 1000000000000000000000000000000*(1 3) 2", str(2 * 10 ** 30 + 3), {"oak": (2, 1, 3, 4, 6)}),
                ("run oak 0*()", "0", {"oak": (2, 1, 3, 4, 6)}),
                ("cut oak 3 elm", "1", {"oak": (3, 2, 1), "elm": (4, 6)}),
                ("copy elm ash", "0", {"oak": (3, 2, 1), "elm": (4, 6), "ash": (4, 6)}),
                ("swap oak ash", "0", {"oak": (4, 6), "elm": (4, 6), "ash": (3, 2, 1)}),
                ("join ash elm", "0", {"oak": (4, 6), "ash": (3, 2, 1, 4, 6)}),
                ("drop oak", "0", {"ash": (3, 2, 1, 4, 6)}),
                ("new nil", "0", {"ash": (3, 2, 1, 4, 6), "nil": ()}),
                ("undo", "ok", {"ash": (3, 2, 1, 4, 6)}),
                ("undo", "ok", {"oak": (4, 6), "ash": (3, 2, 1, 4, 6)}),
                ("redo", "ok", {"ash": (3, 2, 1, 4, 6)})):
            self.assertEqual(console.answer(line), answer, line)
            self.assertEqual(state_of(console.store())[0], shapes, line)
        self.assertEqual(console.store().steps(), (11, 1))

    def test_each_question(self):
        console = full_console()
        self.assertEqual(console.store().steps(), (7, 0))
        for line, answer in (
                ("names", "ash b big elm nil oak"), ("total", "1"), ("show oak", "4 2 1 6"), ("show nil", "empty"),
                ("show b", "2 1 4 6"), ("show big", FORTY), ("depth oak 1", "2"), ("depth oak 4", "0"),
                ("distance oak b", "1"), ("distance oak oak", "0"), ("distance nil nil", "0")):
            self.assert_kept(console, answer, line)

    def test_random_commands_against_a_store(self):
        rng = random.Random(90)
        seen = Counter()
        for _ in range(40):
            console, store, forest = Console(), Store(), {}
            for _ in range(60):
                command = models.random_command(rng, forest)
                line = line_of(command)
                if "" in line.split(" ") or (command[0] == "run" and not command[2]) or command[1] == "a b":
                    self.assert_kept(console, "invalid", line)
                    continue
                if any(part == "a b" for part in command):
                    continue
                try:
                    expected = str(store.apply(command))
                    forest = models.apply_all(forest, [command])[0]
                except (TreeError, Missing) as error:
                    expected = "error " + error.tag
                seen[expected.split(" ")[-1]] += 1
                self.assertEqual(console.answer(line), expected, line)
                self.assertEqual(state_of(console.store()), state_of(store))
                self.assertEqual(console.answer("names"), " ".join(store.names()) or "none")
                self.assertEqual(console.answer("total"), str(store.total_cost()))
                for name in store.names():
                    shape = store.shape_of(name)
                    self.assertEqual(console.answer(f"show {name}"), " ".join(map(str, shape)) or "empty")
                    for key in shape:
                        self.assertEqual(console.answer(f"depth {name} {key}"), str(depth_of(shape, key)))
        self.assertGreater(len(seen), 12)

    def test_arguments_by_keyword(self):
        console = Console(store=None)
        self.assertEqual(console.answer(line="new oak"), "0")
        self.assertEqual(console.answer("show oak"), "empty")
        with self.assertRaises(TypeError):
            Console(Store())


class Errors(ConsoleCase):

    def test_each_error_that_a_line_can_raise(self):
        console = full_console()
        for line, tag in (
                ("new Oak 1", "BadName"), ("new sevenly", "BadName"), ("new oak 1", "NameTaken"),
                ("new fir 1", "TooManyTrees"), ("drop fir", "NoTree"), ("touch fir 1", "NoTree"),
                ("touch oak 77", "NoKey"), ("insert fir 1", "NoTree"), ("insert oak 1000000001", "BadKey"),
                ("insert oak 1", "DuplicateKey"), ("insert big 1", "TooManyKeys"), ("remove oak 77", "NoKey"),
                ("remove fir 1", "NoTree"), ("run fir 1", "NoTree"), ("run oak 77", "NoKey"), ("cut fir 1 x", "NoTree"),
                ("cut oak 1 X", "BadName"), ("cut oak 1 elm", "NameTaken"), ("cut oak 1 fir", "TooManyTrees"),
                ("join fir oak", "NoTree"), ("join oak fir", "NoTree"), ("join oak oak", "SameName"),
                ("join oak ash", "Overlap"), ("join oak big", "TooManyKeys"), ("copy fir x", "NoTree"),
                ("copy oak X", "BadName"), ("copy oak elm", "NameTaken"), ("copy oak fir", "TooManyTrees"),
                ("swap fir oak", "NoTree"), ("swap oak fir", "NoTree"), ("swap oak oak", "SameName"),
                ("show fir", "NoTree"), ("show Oak", "NoTree"), ("depth fir 1", "NoTree"), ("depth oak 77", "NoKey"),
                ("depth nil 0", "NoKey"), ("distance fir oak", "NoTree"), ("distance oak fir", "NoTree"),
                ("distance oak ash", "KeysDiffer"), ("redo", "EmptyHistory"),
                ("touch oak 9999999999999999999999999999999", "NoKey"),
                ("insert oak -9999999999999999999999999999999", "BadKey")):
            self.assert_kept(console, "error " + tag, line)
        console.answer("drop elm")
        for line, tag in (
                ("cut oak 77 fir", "NoKey"), ("new fir 1 1", "DuplicateKey"), ("new fir 1000000001", "BadKey"),
                ("new fir " + FORTY + " 1", "TooManyKeys"), ("new fir " + " ".join(["1"] * 1500), "TooManyKeys")):
            self.assert_kept(console, "error " + tag, line)

    def test_nothing_to_undo_or_redo(self):
        console = Console()
        self.assert_kept(console, "error EmptyHistory", "undo")
        self.assert_kept(console, "error EmptyHistory", "redo")
        console.answer("new oak")
        console.answer("undo")
        self.assert_kept(console, "error EmptyHistory", "undo")

    def test_an_error_keeps_what_can_be_redone(self):
        console = console_with("new oak 2 1", "touch oak 1", "undo")
        self.assert_kept(console, "error NoKey", "touch oak 9")
        self.assert_kept(console, "invalid", "touch oak x")
        self.assertEqual([console.answer("redo"), console.answer("show oak")], ["ok", "1 2"])


class Invalid(ConsoleCase):

    def test_too_many_and_too_few_words(self):
        console = full_console()
        numbers = {
            "drop": 1, "touch": 2, "insert": 2, "remove": 2, "cut": 3, "join": 2, "copy": 2, "swap": 2, "undo": 0,
            "redo": 0, "names": 0, "total": 0, "show": 1, "depth": 2, "distance": 2}
        for word, number in numbers.items():
            for many in range(6):
                if many != number:
                    for rest in (["1"] * many, ["oak"] * many, ["oak", "1", "fir", "1", "1"][:many]):
                        self.assert_kept(console, "invalid", " ".join([word] + rest))
        for line in ("new", "run", "run oak"):
            self.assert_kept(console, "invalid", line)

    def test_other_words(self):
        console = full_console()
        for word in (
                "", "grow", "New", "DROP", "Undo", "shows", "watch", "unwatch", "news", "clone", "steps", "apply", "ok",
                "none", "invalid", "error", "tree", "names\n", "total\n"):
            for rest in ("", " oak", " oak 1", " oak elm"):
                self.assert_kept(console, "invalid", word + rest)

    def test_empty_words(self):
        console = full_console()
        for line in (
                "names", "undo", "total", "touch oak 1", "new fir 1 2", "run oak 1 2", "run oak 2*(1 2)", "show oak",
                "cut oak 1 fir", "distance oak b", "drop fir"):
            for changed in (" " + line, line + " ", line.replace(" ", "  "), "  " + line, line + "  "):
                if changed != line:
                    self.assert_kept(console, "invalid", changed)
        for line in ("", " ", "  ", "new ", "new  ", "run oak ", "run oak  1", "new  1"):
            self.assert_kept(console, "invalid", line)

    def test_integers_that_cannot_be_parsed(self):
        console = full_console()
        for number in ("x", "00", "01", "-0", "+1", "--1", "1.0", "1_0", "-", "9" * 32, "-" + "9" * 32, "1\n", "0x1"):
            for line in (
                    "touch oak {}", "insert oak {}", "remove oak {}", "cut oak {} fir", "depth oak {}", "new fir {}",
                    "new fir 1 {} 2", "touch fir {}", "insert fir {}", "cut fir {} X", "depth fir {}", "new Oak {}",
                    "new oak {}", "new oak 1 1 {}"):
                self.assert_kept(console, "invalid", line.format(number))

    def test_histories_that_cannot_be_parsed(self):
        console = full_console()
        for text in (
                "x", "01", "2*(", "2*(1", "2*1)", "(1)", ")", "-1*(1)", "1000000001", "2*(1 2))", f"{10 ** 30 + 1}*()",
                "1*(1*(1*(1*(1*(1)))))", " ".join(["1"] * 101), "1*(" * 1000 + ")" * 900, "-0", "1 -"):
            self.assert_kept(console, "invalid", "run oak " + text)
            self.assert_kept(console, "invalid", "run fir " + text)
        self.assertEqual(console.answer("run oak " + " ".join(["1"] * 100)), "2")
        self.assertEqual(console.answer("run oak 1*(1*(1*(1*(4))))"), "1")


class TheStore(ConsoleCase):

    def test_the_very_store(self):
        store = Store()
        console = Console(store=store)
        self.assertIs(console.store(), store)
        store.apply(("new", "oak", (2, 1)))
        self.assertEqual([console.answer("names"), console.answer("touch oak 1")], ["oak", "1"])
        self.assertEqual([store.shape_of("oak"), store.steps()], [(1, 2), (2, 0)])
        store.undo()
        self.assertEqual([console.answer("show oak"), console.answer("redo"), console.answer("redo")], [
            "2 1", "ok", "error EmptyHistory"])
        other = Console(store=store)
        other.answer("drop oak")
        self.assertEqual(console.answer("names"), "none")

    def test_a_store_that_is_empty_is_used_too(self):
        store = Store()
        store.watch("oak", 1)
        console = Console(store=store)
        console.answer("new oak 1")
        self.assertEqual([store.news(), len(store)], [[(1, 0)], 1])

    def test_none_is_a_new_store(self):
        one, other = Console(), Console(store=None)
        self.assertIs(type(one.store()), Store)
        self.assertEqual([len(one.store()), one.store().steps()], [0, (0, 0)])
        one.answer("new oak")
        self.assertEqual([one.answer("names"), other.answer("names")], ["oak", "none"])
        self.assertIsNot(one.store(), other.store())
        self.assertIs(one.store(), one.store())


if __name__ == "__main__":
    unittest.main()
