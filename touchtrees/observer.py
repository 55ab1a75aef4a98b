"""Observers of a hidden shape: a log that grows touch by touch, with undo and redo."""

from touchtrees.errors import Contradiction, EmptyHistory
from touchtrees.observations import check_log, count_shapes, find_shape, next_costs


class Observer:
    """What is known of a hidden shape over a list of keys from the costs of its touches."""

    def __init__(self, keys):
        check_log(keys, [])
        self.known = list(keys)
        self.entries = []
        # The removed entries, the one that was removed last at the end.
        self.removed = []

    def __eq__(self, other):
        return isinstance(other, Observer) and self.known == other.known and self.entries == other.entries

    def __len__(self):
        return len(self.entries)

    def __repr__(self):
        return f"Observer({len(self.known)} keys, {len(self.entries)} touches)"

    def observe(self, key, *, cost=0):
        """Adds an entry to the log, and returns the number of shapes that agree with the new log."""
        longer = self.entries + [(key, cost)]
        number = count_shapes(self.known, longer)
        if number == 0:
            raise Contradiction(len(self.entries))
        self.entries = longer
        self.removed = []
        return number

    def undo(self):
        """Removes the last entry."""
        if not self.entries:
            raise EmptyHistory()
        self.removed.append(self.entries.pop())

    def redo(self):
        """Adds the entry that was removed last."""
        if not self.removed:
            raise EmptyHistory()
        self.entries.append(self.removed.pop())

    def universe_keys(self):
        """Returns the list of the keys."""
        return list(self.known)

    def observed(self):
        """Returns the log."""
        return list(self.entries)

    def shapes_left(self):
        """Returns the number of shapes that agree with the log."""
        return count_shapes(self.known, self.entries)

    def example(self):
        """Returns a shape that agrees with the log."""
        return find_shape(self.known, self.entries)

    def forecast(self, key):
        """Returns the ascending list of pairs (cost, number) for a touch of the key after the log."""
        return next_costs(self.known, self.entries, key)

    def certain_keys(self):
        """Returns the ascending list of the keys whose next cost is certain."""
        return [key for key in self.known if len(self.forecast(key)) == 1]

    def twin(self):
        """Returns an independent copy with the same log and the same entries to redo."""
        other = Observer(self.known)
        other.entries = list(self.entries)
        other.removed = list(self.removed)
        return other
