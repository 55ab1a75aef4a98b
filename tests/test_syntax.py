"""Texts of histories, compared with texts that are read word by word."""

import copy
import itertools
import random
import re
import unittest

from touchtrees.errors import BadStep, ParseError, TooLong
from touchtrees.syntax import format_history, parse_history, parse_integer

import samples
from refusals import RefusalCase
from samples import repeat

KEYS = [-10 ** 9, -41, -7, -1, 0, 1, 2, 10, 305, 10 ** 9]
GREAT = 10 ** 30
COUNTS = (0, 1, 2, 10, 99, 10 ** 29, GREAT - 1, GREAT)
HISTORIES = samples.random_histories(random.Random(70), KEYS, 250, COUNTS)
INTEGER = re.compile("-?[0-9]+")


def written(steps):
    """The text of steps."""
    return " ".join(
        f"{step[1]}*({written(step[2])})" if isinstance(step, tuple) else str(step) for step in steps)


def read(text):
    """The history of a text, or None: brackets are closed from the inside, without recursion."""
    stack, tokens = [[]], re.findall(r"-?[0-9]+\*\(|-?[0-9]+|\)|[^)]", text)
    for token in tokens:
        if token.endswith("*("):
            stack.append(token[:-2])
            stack.append([])
        elif token == ")" and len(stack) > 1:
            inner = stack.pop()
            count = stack.pop()
            stack[-1].append(("repeat", int(count), tuple(inner)))
        elif INTEGER.fullmatch(token):
            stack[-1].append(int(token))
        elif token != " ":
            return None
    if len(stack) != 1 or not is_history(stack[0]) or written(stack[0]) != text:
        return None
    return stack[0]


def is_history(steps):
    """Whether steps are a history."""
    levels, inner = 0, list(steps)
    while any(isinstance(step, tuple) for step in inner):
        inner = [below for step in inner if isinstance(step, tuple) for below in step[2]]
        levels += 1
    everything = samples.all_steps(steps)
    return levels <= 4 and len(everything) <= 100 and all(
        0 <= step[1] <= GREAT if isinstance(step, tuple) else abs(step) <= 10 ** 9 for step in everything)


class SyntaxCase(RefusalCase):

    def assert_no_text(self, text):
        self.assert_refused(ParseError, 0, parse_history, text)


class Formatting(SyntaxCase):

    def test_examples(self):
        self.assertEqual(format_history([5, repeat(3, 2, -4), repeat(0)]), "5 3*(2 -4) 0*()")

    def test_each_is_the_inverse_of_the_other(self):
        for history in HISTORIES:
            given = copy.deepcopy(history)
            text = format_history(given)
            self.assertEqual(given, history)
            self.assertEqual(text, written(history))
            found = parse_history(text)
            self.assertEqual(found, list(samples.with_tuples(history)))
            self.assertEqual(format_history(found), text)
            for form in (samples.with_lists(history), samples.with_tuples(history)):
                self.assertEqual(format_history(form), text)

    def test_no_steps(self):
        for empty in ([], ()):
            self.assertEqual(format_history(empty), "")
        self.assertEqual(format_history([repeat(GREAT)]), f"{GREAT}*()")

    def test_the_errors_of_check_history(self):
        for step in (10 ** 9 + 1, -GREAT, (), ("repeat", 2), repeat(-1), repeat(GREAT + 1), ("twice", 2, ())):
            self.assert_refused(BadStep, 1, format_history, [1, step])
            self.assert_refused(BadStep, 2, format_history, (1, repeat(2, step)))
            self.assert_refused(TooLong, 100, format_history, [1] * 100 + [step])
        five = repeat(1, repeat(1, repeat(1, repeat(1, repeat(1)))))
        self.assert_refused(BadStep, 4, format_history, [five])

    def test_arguments_by_keyword(self):
        self.assertEqual(format_history(history=[1]), "1")
        self.assertEqual(parse_history(text="1"), [1])


class Parsing(SyntaxCase):

    def test_examples(self):
        self.assertEqual(parse_history("5 3*(2 -4)"), [5, repeat(3, 2, -4)])
        self.assert_no_text("5  6")

    def test_the_kinds_of_the_lists(self):
        for text, history in (
                ("", []), ("7", [7]), ("-7 0", [-7, 0]), ("2*()", [repeat(2)]), ("0*(1)", [repeat(0, 1)]),
                ("1*(2*(3*(4*(5))))", [repeat(1, repeat(2, repeat(3, repeat(4, 5))))]),
                ("1*() 2*(3*() 4) 5", [repeat(1), repeat(2, repeat(3), 4), 5])):
            found = parse_history(text)
            self.assertEqual(found, history)
            self.assertIs(type(found), list)
            for step in samples.all_steps(found):
                self.assertIn(type(step), (int, tuple))
                if isinstance(step, tuple):
                    self.assertEqual([type(part) for part in step], [str, int, tuple])
        parse_history("1").append(2)
        self.assertEqual(parse_history("1"), [1])

    def test_spaces(self):
        for text in (
                " ", "  ", " 1", "1 ", "1  2", " 1 2", "1 2 ", "2*( 1)", "2*(1 )", "2*( )", "2 *(1)", "2* (1)",
                "1 2*(1)3", "2*(1)3*(1)", "2*(1)  3", "1\n", "\n", "1\n2", "- 1", "2*(1) ", " 2*(1)", "2*(1  2)"):
            self.assert_no_text(text)

    def test_integers(self):
        for text in (
                "00", "01", "-0", "-00", "-01", "+1", "--1", "1-", "1-2", "-", "1.0", "1e3", "1_0", "0x1", "x", "1,2",
                "00*()", "01*(1)", "-0*()", "-1*()", "-1*(2)", "+1*()", "2*(-0)", "2*(01)", "2*(1 007)", "1 00"):
            self.assert_no_text(text)

    def test_brackets(self):
        for text in (
                "(", ")", "()", "(1)", "1)", "1 )", "*(1)", "2*(", "2*(1", "2*1", "2*)", "2*(1))", "2*(1)) 3", "2*",
                "2(1)", "2*(1*(2)", "2*((1))", "2*[1]", "2**(1)", "2*(1)*(1)", "2*(1 3*(2) 4", "1 2*(", ")2*("):
            self.assert_no_text(text)

    def test_keys_and_counts_at_their_bounds_and_outside(self):
        limit = 10 ** 9
        for key in (limit, -limit):
            self.assertEqual(parse_history(f"{key} 2*({key})"), [key, repeat(2, key)])
        for key in (limit + 1, -limit - 1, GREAT, -GREAT, 10 ** 31 - 1, 10 ** 31, 10 ** 32, 10 ** 3000):
            self.assert_no_text(f"{key}")
            self.assert_no_text(f"1 2*({key})")
        for count in (0, 1, GREAT - 1, GREAT):
            self.assertEqual(parse_history(f"{count}*(1)"), [repeat(count, 1)])
        for count in (-1, -GREAT, GREAT + 1, 10 ** 31 - 1, 10 ** 31, 10 ** 32):
            self.assert_no_text(f"{count}*(1)")
            self.assert_no_text(f"2*({count}*())")

    def test_a_hundred_steps_and_a_hundred_and_one(self):
        for many in (99, 100):
            self.assertEqual(parse_history(" ".join(["1"] * many)), [1] * many)
            self.assertEqual(parse_history(" ".join(["2*()"] * many)), [repeat(2)] * many)
            self.assertEqual(parse_history("2*(" + " ".join(["1"] * (many - 1)) + ")"), [repeat(2, *[1] * (many - 1))])
        for many in (101, 102, 1000):
            self.assert_no_text(" ".join(["1"] * many))
            self.assert_no_text("2*(" + " ".join(["1"] * (many - 1)) + ")")
            self.assert_no_text(" ".join(["0*()"] * min(many, 700)))

    def test_depths(self):
        self.assertEqual(parse_history("2*(2*(2*(2*())))"), [repeat(2, repeat(2, repeat(2, repeat(2))))])
        for depth in (5, 6, 50, 333, 999, 1000):
            self.assert_no_text("1*(" * depth + ")" * depth)
            self.assert_no_text("1*(" * depth + "7" + ")" * depth)
            self.assert_no_text("1*(" * depth)
            self.assert_no_text("(" * depth)
            self.assert_no_text(")" * depth)
        self.assert_no_text("1*(" * 1333)
        self.assert_no_text("1 2 " + "1*(" * 5 + "))))) 3")

    def test_one_or_two_characters_changed(self):
        rng = random.Random(71)
        signs = "0123456789-*() +x\n"
        answers = [0, 0]
        texts = [written(history) for history in HISTORIES if len(history) < 5] + ["", "1", "-1 2*(3)"]
        for _ in range(6000):
            text = rng.choice(texts)
            for _ in range(rng.choice((1, 2))):
                at = rng.randrange(len(text) + 1)
                text = rng.choice((text[:at] + text[at + 1:], text[:at] + rng.choice(signs) + text[at + rng.randrange(2):]))
            expected = read(text)
            answers[expected is None] += 1
            if expected is None:
                self.assert_no_text(text)
            else:
                self.assertEqual(parse_history(text), expected)
        self.assertGreater(min(answers), 1000)

    def test_all_short_texts(self):
        for many in range(6):
            for letters in itertools.product("0-2*() ", repeat=many):
                text = "".join(letters)
                expected = read(text)
                if expected is None:
                    self.assert_no_text(text)
                else:
                    self.assertEqual(parse_history(text), expected)


class Integers(RefusalCase):

    def test_integers_of_up_to_thirty_one_digits(self):
        for number in (0, 1, -1, 9, 10, -10, 305, 10 ** 30, -10 ** 30, 10 ** 31 - 1, 1 - 10 ** 31):
            self.assertEqual(parse_integer(str(number)), number)

    def test_other_texts(self):
        for text in (
                "", "-", "--1", "+1", "00", "-0", "01", "-01", " 1", "1 ", "1_0", "1.", "x", "1x", "\n", "1\n",
                str(10 ** 31), str(-10 ** 31), "9" * 32, "9" * 4000, "-" + "9" * 32, "0" * 31, "1-1"):
            self.assert_refused(ParseError, 0, parse_integer, text)


if __name__ == "__main__":
    unittest.main()
