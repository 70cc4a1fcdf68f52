"""Values that several tests use: odd values for "any value", and ends and pacts."""

from answeredsettings.ends import End
from answeredsettings.pacts import Pact
from answeredsettings.settings import Setting


class Picky:
    """A value that lets itself neither be compared nor be a key."""

    __hash__ = None

    def __eq__(self, other):
        raise AssertionError("this value must not be compared")

    def __bool__(self):
        raise AssertionError("this value has no truth")


class Same:
    """A value that says of everything that it is equal to it."""

    def __eq__(self, other):
        return True

    __hash__ = None


# No word, no name, no deed, no sort, no hold, no use, no setting, no end and no pact is among these.
ODD = [
    None, True, False, 0, 1, 2, 3, -1, 5, 10 ** 30, 0.5, 1.0, 2.0, float("nan"), 1j, "", " ", "A", "Left", "left ", "a1",
    "a b", "\u00e4", "\u0430", "abcdefghi", "sent,", b"left", b"a", (), ("a",), (1, 2), ("left", "right"), [], ["a"],
    [1, 2], [(1, 2)], {}, {"a": 1}, {1: 2}, set(), {1}, frozenset({1}), object(), Picky(), Same(), len, int, range(3),
]

BOTH_WAYS = [(1, 2), (2, 1)]

# Local states of the example: the left one at the start and with another base, the right one at the start.
START = ((1,), (), (), (), (), ())
FAR = ((2,), (), (), (), (), ())
USED = ((), (), (), (1,), (), ())
# States of the example that cannot be come to, though they have the form.
FAR_STATES = [
    (FAR, USED, (), ()),
    (FAR, USED, (), (("frame", "a", 2),)),
    (((0,), (("a", 1, 1),), (), (), (), ()), ((), (), (("a", 1, 0),), (0,), (), ()), (("back",), ("back",)), ()),
    (((0,), (("a", 2, 1),), (), (), (), ()), ((), (), (), (0,), (), ()), (("back",),), (("no",), ("frame", "a", 0))),
    (((0,), (("a", 2, 0),), (), (), (), ()), ((), (), (), (0,), (), ()), (), (("answer",),)),
]
# No list and no tuple, or one with a value that is no watched state.
NO_TABLES = [value for value in ODD if not isinstance(value, (list, tuple)) or len(value) > 0]


def size(changes=BOTH_WAYS, hold="answered", many=3, start=1):
    return Setting("size", many, start, list(changes), hold)


def table(changes=BOTH_WAYS, hold="answered", many=3, start=1):
    return Setting("table", many, start, list(changes), hold)


def room(changes=BOTH_WAYS, hold="answered", many=3, start=1):
    return Setting("room", many, start, list(changes), hold)


def one_way(setting, use, owner_rules=None, maker_rules=None, most=1):
    """A pact in which the left end owns one setting."""
    left = End({"a": setting}, {}, owner_rules or {}, most)
    right = End({}, {"a": use}, maker_rules or {}, most)
    return Pact(left, right)


def example():
    """The pact of the examples of the document."""
    return one_way(size(), "heard", {"back": []})


def two_way(left_changes=((1, 0), (0, 1)), right_changes=((0, 1), (1, 0))):
    """A pact in which each end owns a setting, the left one a size and the right one a room."""
    left = End({"a": size(left_changes, "sent", 2)}, {"b": "heard"}, {}, 1)
    right = End({"b": room(right_changes, "open", 2, 0)}, {"a": "answered"}, {"back": []}, 1)
    return Pact(left, right)


def wide():
    """A pact with 26626 watched states."""
    left = End({"a": size([(1, 2), (2, 0)], "sent")}, {"b": "heard"}, {}, 1)
    right = End({"b": room([(1, 2), (2, 1)], "open")}, {"a": "answered"}, {"back": []}, 1)
    return Pact(left, right)


def two_at_one():
    """A pact in which the left end owns two settings."""
    left = End({"b": table([(0, 1), (1, 0)], "answered", 2, 0), "a": size([(0, 1)], "sent", 2, 0)}, {}, {}, 2)
    return Pact(left, End({}, {"a": "heard", "b": "answered"}, {}, 1))


def crowded():
    """A pact with more than 30000 watched states."""
    left = End({"a": size(), "c": table()}, {"b": "heard", "d": "heard"}, {}, 3)
    right = End({"b": room(), "d": size()}, {"a": "heard", "c": "heard"}, {}, 3)
    return Pact(left, right)


def many_watched():
    """A pact with more than 30000 watched states, but 6566 bare ones."""
    left = End({"a": size([(1, 2), (2, 0), (2, 3)], "sent", 4)}, {"b": "heard"}, {}, 1)
    right = End({"b": room([(1, 2), (2, 1)], "open")}, {"a": "answered"}, {"back": []}, 1)
    return Pact(left, right)


def small_pacts():
    """A dict of pacts with few states: each sort, hold and use, rules that bar deeds, one to three open changes."""
    found = {"example": example(), "no words": Pact(End({}, {}, {}, 1), End({}, {}, {}, 3))}
    for make in (size, table, room):
        for hold in ("sent", "answered", "open"):
            for use in ("heard", "answered"):
                if (make, hold) != (table, "open"):
                    found[f"{make.__name__} {hold} {use}"] = one_way(make(hold=hold), use)
    found["no changes"] = one_way(size([]), "heard")
    found["two open"] = one_way(size([(0, 1), (1, 0)], "open", 2, 0), "heard", most=2)
    found["three open"] = one_way(table([(0, 1), (1, 0)], "answered", 2, 0), "heard", {"back": []}, most=3)
    found["two open, a room"] = one_way(room([(0, 1), (1, 0)], "sent", 2, 0), "heard", most=2)
    found["greater ones"] = one_way(size([(0, 3), (3, 1)], "sent", 4, 0), "heard")
    found["no frames while owed"] = one_way(size(), "heard", {}, {"frame": [(0, 0)], "answer": [(0, 1)]})
    found["no answers"] = one_way(size(), "heard", {}, {"answer": []})
    found["dones while open"] = one_way(room(), "heard", {"done": [(1, 0)]}, {})
    found["nothing"] = one_way(size(), "heard", {"set": [], "back": [], "done": []}, {"frame": [], "answer": []})
    turned = one_way(table(), "heard")
    found["turned about"] = Pact(turned.right, turned.left)
    # Asking back is barred, or let only with one change open, so that fewer states are gone through.
    for name, pact, pairs in (("two ways", two_way(), []), ("two at one", two_at_one(), [(1, 0)])):
        found[name] = pact.with_end("left", pact.left.with_pairs("back", pairs))
    return found


def move(text):
    """A move from a text like "left set a 2"."""
    name, *parts = text.split()
    return (name, tuple(int(part) if part.isdigit() else part for part in parts))


def weaving(text):
    """A weaving from moves with "; " between them."""
    return [move(row) for row in text.split("; ")] if text else []
