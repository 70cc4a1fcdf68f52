"""A pact: two ends of which each uses just the settings of the other one."""

from answeredsettings.checks import is_one_of
from answeredsettings.ends import End
from answeredsettings.errors import BadArgument, BadName, BadPact

NAMES = ("left", "right")


def wrong_part(left, right):
    """The first part that is not as a pact asks for, None if all are."""
    if not isinstance(left, End):
        return "left"
    if not isinstance(right, End):
        return "right"
    # An end uses no word of its own, so a word of both ends is missing in the uses of either.
    if left.used_words() != right.words() or right.used_words() != left.words():
        return "words"
    return None


def check_name(name):
    """Raise BadName for any value that is no name of an end."""
    if not is_one_of(name, NAMES):
        raise BadName(name)


class Pact:
    """Two ends, called left and right, that talk with each other."""

    def __init__(self, left, right):
        part = wrong_part(left, right)
        if part is not None:
            raise BadPact(part)
        self._left = left
        self._right = right
        self._owners = {word: name for name, end in (("left", left), ("right", right)) for word in end.words()}

    @property
    def left(self):
        """The left end."""
        return self._left

    @property
    def right(self):
        """The right end."""
        return self._right

    def end(self, name):
        """The end with this name."""
        check_name(name)
        return self._left if name == "left" else self._right

    def other(self, name):
        """The name of the other end."""
        check_name(name)
        return "right" if name == "left" else "left"

    def words(self):
        """All words of settings, ascending."""
        return sorted(list(self._owners), key=str)

    def owner(self, word):
        """The name of the end that owns the setting with this word."""
        if not is_one_of(word, self._owners):
            raise BadName(word)
        return self._owners[word]

    def setting(self, word):
        """The setting with this word."""
        return self.end(self.owner(word)).setting(word)

    def with_end(self, name, end):
        """The pact with another end in the place of this name."""
        check_name(name)
        if name == "left":
            return Pact(end, self._right)
        return Pact(self._left, end)

    def __eq__(self, other):
        return isinstance(other, Pact) and self._left == other._left and self._right == other._right


def check_pact(value):
    """Raise BadArgument for any value that is no pact."""
    if not isinstance(value, Pact):
        raise BadArgument(value)
