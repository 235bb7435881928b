"""Sessions: a flood with operations that can be cancelled and performed again.

An operation is a tuple of a word and its arguments, as the history of a session lists them.
"""

from rainvalleys.checks import checked_number
from rainvalleys.errors import InvalidNumber, InvalidOperations, NothingToUndo
from rainvalleys.floods import Flood
from rainvalleys.integers import is_whole

ARGUMENTS = {"rain": 2, "pour": 2, "pump": 2, "dry": 1}


def performed(site, operation):
    """The result of an operation on a flood or in a session."""
    word = operation[0]
    if word == "rain":
        return site.rain(operation[1], weights=operation[2])
    if word == "pour":
        return site.pour(operation[1], operation[2])
    if word == "pump":
        return site.pump(operation[1], operation[2])
    return site.dry(operation[1])


def listed(operation):
    """A valid operation as the history lists it, with nothing in it that can be changed."""
    word = operation[0]
    if word == "rain":
        weights = operation[2]
        if weights is not None:
            weights = tuple(weights)
        return word, checked_number(operation[1]), weights
    if word == "dry":
        return word, checked_number(operation[1])
    return word, operation[1], checked_number(operation[2])


def has_operation_form(value):
    """Whether the value is a tuple of the word of an operation and as many arguments as it has."""
    if not isinstance(value, tuple) or len(value) == 0:
        return False
    word = value[0]
    return isinstance(word, str) and word in ARGUMENTS and len(value) == 1 + ARGUMENTS[word]


def check_operations(operations):
    """Raise the error for a value that is no list of operations."""
    if not isinstance(operations, list):
        raise InvalidOperations(None)
    for index, value in enumerate(operations):
        if not has_operation_form(value):
            raise InvalidOperations(index)


def check_count(count, most):
    """Raise the error for a value that is no count of this many operations at most."""
    if not is_whole(count) or count < 1:
        raise InvalidNumber(count)
    if count > most:
        raise NothingToUndo(count)


class Session:
    """A flood that starts dry, and the operations that led to it.

    The snapshots of the flood begin with the dry one; behind it there is one after each current operation.
    """

    def __init__(self, profile):
        self.present = Flood(profile)
        self.snapshots = [self.present.snapshot()]
        self.operations = []
        self.cancelled = []

    def rain(self, amount, *, weights=None):
        """Let rain fall on all columns and return the events."""
        return self.perform(("rain", amount, weights))

    def pour(self, column, volume):
        """Let this volume fall on one column and return the events."""
        return self.perform(("pour", column, volume))

    def pump(self, column, volume):
        """Take water away at a column and return its volume."""
        return self.perform(("pump", column, volume))

    def dry(self, depth):
        """Lower each level and return the volume that is taken away."""
        return self.perform(("dry", depth))

    def perform(self, operation):
        """Perform a new operation and return its result."""
        result = performed(self.present, operation)
        self.operations.append(listed(operation))
        self.snapshots.append(self.present.snapshot())
        self.cancelled = []
        return result

    def flood(self):
        """A copy of the present flood."""
        return self.present.clone()

    def undo(self, count=1):
        """Cancel the latest operations."""
        check_count(count, len(self.operations))
        for time in range(count):
            self.cancelled.append((self.operations.pop(), self.snapshots.pop()))
        self.present.return_to(self.snapshots[-1])

    def redo(self, count=1):
        """Perform again the operations that were cancelled last, in their order."""
        check_count(count, len(self.cancelled))
        for time in range(count):
            operation, snapshot = self.cancelled.pop()
            self.operations.append(operation)
            self.snapshots.append(snapshot)
        self.present.return_to(self.snapshots[-1])

    def history(self):
        """The current operations."""
        return list(self.operations)

    def preview(self, operations):
        """The results that these operations would have."""
        check_operations(operations)
        trial = self.present.clone()
        return [performed(trial, operation) for operation in operations]

    def clone(self):
        """An independent copy, also of the cancelled operations."""
        twin = Session(self.present.profile)
        twin.snapshots = list(self.snapshots)
        twin.operations = list(self.operations)
        twin.cancelled = list(self.cancelled)
        twin.present.return_to(twin.snapshots[-1])
        return twin

    def __eq__(self, other):
        return (isinstance(other, Session) and self.present.profile == other.present.profile
                and self.operations == other.operations)

    def __len__(self):
        return len(self.operations)
