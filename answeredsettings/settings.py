"""A setting: what its owner lets the other end send, and how that may change."""

from answeredsettings.checks import is_between, is_integer, is_one_of, is_pair
from answeredsettings.errors import BadSetting

SORTS = ("size", "table", "room")
HOLDS = ("sent", "answered", "open")


def are_changes(value, size):
    """Whether a value is a list of pairs of unlike values below size."""
    if not isinstance(value, list):
        return False
    return all([is_pair(pair, 0, size - 1) and pair[0] != pair[1] for pair in value])


def is_hold(value, sort):
    """Whether a value is a hold of a setting of this sort."""
    if sort == "table":
        # A table has no greater and lesser values, so there is no greatest one to judge by.
        return is_one_of(value, ("sent", "answered"))
    return is_one_of(value, HOLDS)


def wrong_part(sort, size, start, changes, hold):
    """The first part that is not as a setting asks for, None if all are."""
    if not is_one_of(sort, SORTS):
        return "sort"
    if not is_between(size, 2, 4):
        return "size"
    if not is_between(start, 0, size - 1):
        return "start"
    if not are_changes(changes, size):
        return "changes"
    if not is_hold(hold, sort):
        return "hold"
    return None


class Setting:
    """What its owner lets the other end send: frames up to a size, by a table, or so many at a time."""

    def __init__(self, sort, size, start, changes, hold):
        part = wrong_part(sort, size, start, changes, hold)
        if part is not None:
            raise BadSetting(part)
        self._kind = sort
        self._size = size
        self._start = start
        self._changes = {pair: True for pair in changes}
        self._hold = hold

    @property
    def kind(self):
        """Its sort."""
        return self._kind

    @property
    def size(self):
        """How many values it has: those from 0 on."""
        return self._size

    @property
    def start(self):
        """Its value at the start."""
        return self._start

    @property
    def hold(self):
        """From when on a change holds for its owner."""
        return self._hold

    def changes(self):
        """The list of its changes, ascending."""
        return sorted(list(self._changes), key=str)

    def lets(self, one, other):
        """Whether (one, other) is one of its changes, for any two values."""
        return is_integer(one) and is_integer(other) and (one, other) in self._changes

    def __eq__(self, other):
        return (
            isinstance(other, Setting)
            and self._kind == other._kind
            and self._size == other._size
            and self._start == other._start
            and self._changes == other._changes
            and self._hold == other._hold
        )
