"""Histories for the tests, and what plain loops over their touches say of them."""


def repeat(count, *steps):
    """A round, its inner steps as a tuple."""
    return ("repeat", count, steps)


def random_steps(rng, keys, many, depth, counts):
    """Some steps over a list of keys, with rounds up to so many levels deep, their steps as lists or as tuples."""
    steps = []
    for _ in range(rng.randrange(many + 1)):
        if depth and rng.random() < 0.4:
            inner = random_steps(rng, keys, many, depth - 1, counts)
            steps.append(("repeat", rng.choice(counts), rng.choice((list, tuple))(inner)))
        else:
            steps.append(rng.choice(keys))
    return steps


def random_histories(rng, keys, number, counts=(0, 1, 2, 3)):
    """So many histories over a list of keys."""
    found = []
    while len(found) < number:
        steps = random_steps(rng, keys, rng.choice((2, 3, 4)), rng.randrange(5), counts)
        if count_steps(steps) <= 100:
            found.append(steps)
    return found


def count_steps(steps):
    """The number of all steps, inner ones and the rounds themselves included."""
    return sum(1 + count_steps(step[2]) if isinstance(step, tuple) else 1 for step in steps)


def written_out(steps):
    """The list of all touches, one by one."""
    found = []
    for step in steps:
        if isinstance(step, tuple):
            for _ in range(step[1]):
                found += written_out(step[2])
        else:
            found.append(step)
    return found


def all_steps(steps):
    """The list of all steps in the order of their positions."""
    found = []
    for step in steps:
        found.append(step)
        if isinstance(step, tuple):
            found += all_steps(step[2])
    return found


def last_first(touches):
    """The touched keys without duplicates, the last touched one first."""
    return list(dict.fromkeys(reversed(touches)))


def with_lists(steps):
    """The same steps, all inner steps as lists."""
    return [("repeat", step[1], with_lists(step[2])) if isinstance(step, tuple) else step for step in steps]


def with_tuples(steps):
    """The same steps, all inner steps as tuples, and the steps themselves as a tuple."""
    return tuple(("repeat", step[1], with_tuples(step[2])) if isinstance(step, tuple) else step for step in steps)
