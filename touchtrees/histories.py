"""Histories: lists of touches and of rounds of touches that are repeated."""

from touchtrees.errors import BadStep, TooLong
from touchtrees.shapes import build, is_key
from touchtrees.touching import touch

MAX_STEPS = 100
MAX_NESTING = 4
COUNT_LIMIT = 10 ** 30
UNROLL_LIMIT = 1000


def is_round(step):
    """Returns whether a tuple is a round, apart from its inner steps."""
    return len(step) == 3 and step[0] == "repeat" and 0 <= step[1] <= COUNT_LIMIT


def check_steps(steps, start, depth):
    """Checks steps from a position on, rounds being at this depth; returns the position behind them."""
    pos = start
    for step in steps:
        if pos >= MAX_STEPS:
            raise TooLong(MAX_STEPS)
        if not isinstance(step, tuple):
            if not is_key(step):
                raise BadStep(pos)
            pos += 1
        elif depth > MAX_NESTING or not is_round(step):
            raise BadStep(pos)
        else:
            pos = check_steps(step[2], pos + 1, depth + 1)
    return pos


def check_history(history):
    """Returns None if a list of steps is a history; raises TooLong or BadStep otherwise."""
    check_steps(history, 0, 1)


def touches_in(steps):
    """Returns the number of touches of checked steps."""
    return sum([step[1] * touches_in(step[2]) if isinstance(step, tuple) else 1 for step in steps])


def count_touches(history):
    """Returns the number of touches."""
    check_history(history)
    return touches_in(history)


def written_touches(steps):
    """Returns the list of the touches of checked steps if each round that is done at all is done once."""
    found = []
    for step in steps:
        if not isinstance(step, tuple):
            found.append(step)
        elif step[1] > 0:
            found.extend(written_touches(step[2]))
    return found


def last_touches(history):
    """Returns the list of the touched keys without duplicates, in descending order of their last touches."""
    check_history(history)
    recent = []
    # The last repetition of a round decides, so that one repetition is enough.
    for key in reversed(written_touches(history)):
        if key not in recent:
            recent.append(key)
    return recent


def touched_keys(history):
    """Returns the ascending list of the touched keys without duplicates."""
    return sorted(last_touches(history))


def top_shape(history):
    """Returns the top of the history."""
    # A key is above those that are inserted as leaves after it, as long as none between them was inserted before it.
    return build(last_touches(history))


def unrolled(steps):
    """Returns the list of the touches of checked steps."""
    found = []
    for step in steps:
        if not isinstance(step, tuple):
            found.append(step)
        elif touches_in([step]) > 0:
            # Without touches, neither the inner steps nor the count have a bound that could be relied on.
            found.extend(unrolled(step[2]) * step[1])
    return found


def unroll(history, *, limit=UNROLL_LIMIT):
    """Returns the list of the touched keys, one for each touch, in their order."""
    if count_touches(history) > limit:
        raise TooLong(limit)
    return unrolled(history)


def run_round(shape, step):
    """Returns the pair of the shape after a round and its cost."""
    count = step[1]
    if count == 0:
        return shape, 0
    last, first_cost = run_steps(shape, step[2])
    # All repetitions end with the same shape, so that all but the first one cost the same.
    last, later_cost = run_steps(last, step[2])
    return last, first_cost + (count - 1) * later_cost


def run_steps(shape, steps):
    """Returns the pair of the shape after checked steps and the sum of their costs."""
    last = shape
    total = 0
    for step in steps:
        if isinstance(step, tuple):
            last, cost = run_round(last, step)
        else:
            last, cost = touch(last, step)
        total += cost
    return last, total


def run_history(shape, history):
    """Returns the pair of the shape after all touches and the sum of all costs."""
    check_history(history)
    return run_steps(shape, history)
