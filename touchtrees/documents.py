"""Texts of stores: one row for each tree."""

from touchtrees.errors import ParseError
from touchtrees.shapes import is_shape
from touchtrees.store import MAX_TREES, is_name, store_of
from touchtrees.syntax import parse_integer


def row_text(name, shape):
    """Returns the row of a tree, with its line feed."""
    return " ".join(["tree", name] + [str(key) for key in shape]) + "\n"


def format_store(store):
    """Returns the text of a store."""
    return "".join([row_text(name, store.shape_of(name)) for name in store.names()])


def read_row(row, pos):
    """Returns the name and the shape of a row without its line feed; raises ParseError with the index of the row."""
    words = row.split(" ")
    if len(words) < 2 or words[0] != "tree" or not is_name(words[1]):
        raise ParseError(pos)
    try:
        shape = tuple([parse_integer(word) for word in words[2:]])
    except ParseError:
        raise ParseError(pos) from None
    if not is_shape(shape):
        raise ParseError(pos)
    return words[1], shape


def parse_store(text):
    """Returns the store of a text, without steps, total cost and watches."""
    *rows, rest = text.split("\n")
    trees = {}
    before = ""
    for pos, row in enumerate(rows):
        name, shape = read_row(row, pos)
        if pos >= MAX_TREES or name <= before:
            raise ParseError(pos)
        trees[name] = shape
        before = name
    # What stands behind the last line feed would be a row without one.
    if rest:
        raise ParseError(len(rows))
    return store_of(trees)
