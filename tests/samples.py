"""Values that several tests use: odd values for "any value", and ends and pacts."""

from answeredsettings.ends import End
from answeredsettings.pacts import Pact
from answeredsettings.settings import Setting


class Picky:
    """A value that lets itself neither be compared nor be a key."""

    __hash__ = None

    def __eq__(self, other):
        raise AssertionError("this value must not be compared")

    def __bool__(self):
        raise AssertionError("this value has no truth")


class Same:
    """A value that says of everything that it is equal to it."""

    def __eq__(self, other):
        return True

    __hash__ = None


# No word, no name, no deed, no sort, no hold, no use, no setting, no end and no pact is among these.
ODD = [
    None, True, False, 0, 1, 2, 3, -1, 5, 10 ** 30, 0.5, 1.0, 2.0, float("nan"), 1j, "", " ", "A", "Left", "left ", "a1",
    "a b", "\u00e4", "\u0430", "abcdefghi", "sent,", b"left", b"a", (), ("a",), (1, 2), ("left", "right"), [], ["a"],
    [1, 2], [(1, 2)], {}, {"a": 1}, {1: 2}, set(), {1}, frozenset({1}), object(), Picky(), Same(), len, int, range(3),
]

BOTH_WAYS = [(1, 2), (2, 1)]


def size(changes=BOTH_WAYS, hold="answered", many=3, start=1):
    return Setting("size", many, start, list(changes), hold)


def table(changes=BOTH_WAYS, hold="answered", many=3, start=1):
    return Setting("table", many, start, list(changes), hold)


def room(changes=BOTH_WAYS, hold="answered", many=3, start=1):
    return Setting("room", many, start, list(changes), hold)


def one_way(setting, use, owner_rules=None, maker_rules=None, most=1):
    """A pact in which the left end owns one setting."""
    left = End({"a": setting}, {}, owner_rules or {}, most)
    right = End({}, {"a": use}, maker_rules or {}, most)
    return Pact(left, right)


def example():
    """The pact of the examples of the document."""
    return one_way(size(), "heard", {"back": []})
