"""Texts of integers and of histories."""

from touchtrees.errors import BadStep, ParseError, TooLong
from touchtrees.histories import MAX_NESTING, check_history

MAX_DIGITS = 31


def parse_integer(text):
    """Returns the integer of a text; raises ParseError if it is not written as integers are."""
    digits = text.removeprefix("-")
    if not digits.isascii() or not digits.isdigit() or len(digits) > MAX_DIGITS:
        raise ParseError(0)
    if digits[0] == "0" and text != "0":
        raise ParseError(0)
    return int(text)


def steps_text(steps):
    """Returns the text of checked steps."""
    return " ".join([step_text(step) for step in steps])


def step_text(step):
    """Returns the text of a checked step."""
    if isinstance(step, tuple):
        return f"{step[1]}*({steps_text(step[2])})"
    return str(step)


def format_history(history):
    """Returns the text of a history."""
    check_history(history)
    return steps_text(history)


def integer_end(text, start):
    """Returns the index behind the signs and digits that stand in a text from an index on."""
    at = start
    while at < len(text) and text[at] in "-0123456789":
        at += 1
    return at


def read_step(text, start, depth):
    """Reads a step from an index on, rounds being at this depth; returns the step and the index behind it."""
    at = integer_end(text, start)
    number = parse_integer(text[start:at])
    if not text.startswith("*(", at):
        return number, at
    # Without this check, a text could lead to as many calls one inside another as it has brackets.
    if depth > MAX_NESTING:
        raise ParseError(0)
    steps, at = read_steps(text, at + 2, depth + 1)
    if at == len(text):
        raise ParseError(0)
    return ("repeat", number, steps), at + 1


def read_steps(text, start, depth):
    """Reads steps up to a closing bracket or the end; returns the tuple of them and the index behind them."""
    steps = []
    at = start
    while at < len(text) and text[at] != ")":
        if steps:
            if text[at] != " ":
                raise ParseError(0)
            at += 1
        step, at = read_step(text, at, depth)
        steps.append(step)
    return tuple(steps), at


def parse_history(text):
    """Returns the history of a text."""
    steps, end = read_steps(text, 0, 1)
    if end < len(text):
        raise ParseError(0)
    history = list(steps)
    try:
        check_history(history)
    except (TooLong, BadStep):
        raise ParseError(0) from None
    return history
