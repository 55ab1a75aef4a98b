"""A console that answers lines: commands of a store, undo and redo, and questions."""

from touchtrees.errors import EmptyHistory, Missing, ParseError, TreeError
from touchtrees.store import Store
from touchtrees.structure import depth_of
from touchtrees.syntax import parse_history, parse_integer

# What stands behind the first word of a line, word by word; new and run take any number of words.
FORMS = {
    "drop": ("name",), "touch": ("name", "key"), "insert": ("name", "key"), "remove": ("name", "key"),
    "cut": ("name", "key", "name"), "join": ("name", "name"), "copy": ("name", "name"), "swap": ("name", "name"),
    "undo": (), "redo": (), "names": (), "total": (), "show": ("name",), "depth": ("name", "key"),
    "distance": ("name", "name")}


def joined_or(parts, empty):
    """Returns the parts of a list, separated by one space, or another text if there is none."""
    return " ".join([str(part) for part in parts]) if parts else empty


def answer_undo(store):
    """Undoes the last step."""
    store.undo()
    return "ok"


def answer_redo(store):
    """Redoes the step that was undone last."""
    store.redo()
    return "ok"


def answer_names(store):
    """Returns the names of all trees."""
    return joined_or(store.names(), "none")


def answer_total(store):
    """Returns the total cost."""
    return str(store.total_cost())


def answer_show(store, name):
    """Returns the keys of a shape."""
    return joined_or(store.shape_of(name), "empty")


def answer_depth(store, name, key):
    """Returns the depth of a key."""
    return str(depth_of(store.shape_of(name), key))


def answer_distance(store, name, other):
    """Returns the distance of two trees."""
    return str(store.distance(name, other))


# All other words are commands of the store.
ANSWERS = {
    "undo": answer_undo, "redo": answer_redo, "names": answer_names, "total": answer_total, "show": answer_show,
    "depth": answer_depth, "distance": answer_distance}


def read_line(line):
    """Returns the tuple of the first word of a line and what the others stand for; raises ParseError."""
    words = line.split(" ")
    if "" in words:
        raise ParseError(0)
    word = words[0]
    if word == "new" and len(words) > 1:
        return word, words[1], [parse_integer(key) for key in words[2:]]
    if word == "run" and len(words) > 2:
        return word, words[1], parse_history(" ".join(words[2:]))
    if word not in FORMS or len(FORMS[word]) != len(words) - 1:
        raise ParseError(0)
    worths = [parse_integer(part) if kind == "key" else part for kind, part in zip(FORMS[word], words[1:])]
    return (word,) + tuple(worths)


def answer_to(store, request):
    """Returns the answer of a store to what read_line returned; raises the errors of the store."""
    if request[0] not in ANSWERS:
        return str(store.apply(request))
    action = ANSWERS[request[0]]
    rest = request[1:]
    return action(store, *rest)


class Console:
    """A console over a store, which may be changed beside it."""

    def __init__(self, *, store=None):
        self.held = Store() if store is None else store

    def store(self):
        """Returns the very store that the console uses."""
        return self.held

    def answer(self, line):
        """Returns the answer to a line."""
        try:
            request = read_line(line)
        except ParseError:
            return "invalid"
        try:
            return answer_to(self.held, request)
        except (TreeError, Missing, EmptyHistory) as e:
            return f"error {e.tag}"
