"""The errors of the package: each has a field and the attribute tag, the name of its class."""


class TreeError(ValueError):
    """What all errors about values have in common. It is never raised itself."""

    def __init__(self, tag, told):
        ValueError.__init__(self, told)
        self.tag = tag


class BadKey(TreeError):
    """An integer is no key."""

    def __init__(self, key):
        TreeError.__init__(self, "BadKey", f"{key} is no key")
        self.key = key


class DuplicateKey(TreeError):
    """A key is there already."""

    def __init__(self, key):
        TreeError.__init__(self, "DuplicateKey", f"the key {key} is there already")
        self.key = key


class BadShape(TreeError):
    """A tuple is not the preorder of a search tree."""

    def __init__(self, pos):
        TreeError.__init__(self, "BadShape", f"the key at index {pos} cannot follow the keys before it")
        self.pos = pos


class TooManyKeys(TreeError):
    """There are more keys than allowed."""

    def __init__(self, limit):
        TreeError.__init__(self, "TooManyKeys", f"there are more than {limit} keys")
        self.limit = limit


class AtRoot(TreeError):
    """The root has no parent to be rotated with."""

    def __init__(self, key):
        TreeError.__init__(self, "AtRoot", f"the key {key} is the root")
        self.key = key


class Overlap(TreeError):
    """Two trees cannot be joined in this order."""

    def __init__(self, key):
        TreeError.__init__(self, "Overlap", f"the key {key} is not smaller than all keys of the other tree")
        self.key = key


class KeysDiffer(TreeError):
    """Two shapes are not over the same keys."""

    def __init__(self, key):
        TreeError.__init__(self, "KeysDiffer", f"only one of the shapes has the key {key}")
        self.key = key


class BadStep(TreeError):
    """A step of a history is no key and no allowed round."""

    def __init__(self, pos):
        TreeError.__init__(self, "BadStep", f"the step at position {pos} is no step")
        self.pos = pos


class BadCost(TreeError):
    """A cost in a log is negative."""

    def __init__(self, pos):
        TreeError.__init__(self, "BadCost", f"the cost of entry {pos} is negative")
        self.pos = pos


class BadSize(TreeError):
    """A number of keys is out of its bounds."""

    def __init__(self, size):
        TreeError.__init__(self, "BadSize", f"the size {size} is out of bounds")
        self.size = size


class BadWeight(TreeError):
    """A weight is out of its bounds."""

    def __init__(self, key):
        TreeError.__init__(self, "BadWeight", f"the weight of the key {key} is out of bounds")
        self.key = key


class TooLong(TreeError):
    """A history or a log is longer than allowed."""

    def __init__(self, limit):
        TreeError.__init__(self, "TooLong", f"there are more than {limit} entries")
        self.limit = limit


class Contradiction(TreeError):
    """No shape would agree with a log."""

    def __init__(self, pos):
        TreeError.__init__(self, "Contradiction", f"no shape agrees with entry {pos}")
        self.pos = pos


class BadName(TreeError):
    """A string is no name."""

    def __init__(self, name):
        TreeError.__init__(self, "BadName", f"{name!r} is no name")
        self.name = name


class NameTaken(TreeError):
    """A tree has this name already."""

    def __init__(self, name):
        TreeError.__init__(self, "NameTaken", f"there is a tree {name!r} already")
        self.name = name


class SameName(TreeError):
    """A command needs two different trees."""

    def __init__(self, name):
        TreeError.__init__(self, "SameName", f"{name!r} is named twice")
        self.name = name


class TooManyTrees(TreeError):
    """A store is full."""

    def __init__(self, limit):
        TreeError.__init__(self, "TooManyTrees", f"there are {limit} trees already")
        self.limit = limit


class TooManyWatches(TreeError):
    """A store has no room for another watch."""

    def __init__(self, limit):
        TreeError.__init__(self, "TooManyWatches", f"there are {limit} watches already")
        self.limit = limit


class BadCommand(TreeError):
    """A tuple is no command."""

    def __init__(self, word):
        TreeError.__init__(self, "BadCommand", f"{word!r} with these arguments is no command")
        self.word = word


class ParseError(TreeError):
    """A text cannot be parsed."""

    def __init__(self, pos):
        TreeError.__init__(self, "ParseError", f"the text cannot be parsed at {pos}")
        self.pos = pos


class Missing(LookupError):
    """What all errors about absent things have in common. It is never raised itself."""

    def __init__(self, tag, told):
        LookupError.__init__(self, told)
        self.tag = tag


class NoKey(Missing):
    """A shape or a list does not have a key."""

    def __init__(self, key):
        Missing.__init__(self, "NoKey", f"there is no key {key}")
        self.key = key


class NoTree(Missing):
    """A store does not have a tree."""

    def __init__(self, name):
        Missing.__init__(self, "NoTree", f"there is no tree {name!r}")
        self.name = name


class NoWatch(Missing):
    """A store does not have a watch."""

    def __init__(self, number):
        Missing.__init__(self, "NoWatch", f"there is no watch {number}")
        self.number = number


class EmptyHistory(IndexError):
    """There is no step to undo or to redo."""

    def __init__(self):
        IndexError.__init__(self, "there is no step to undo or to redo")
        self.tag = "EmptyHistory"
