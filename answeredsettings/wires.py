"""Letters as bytes, and a machine whose letters go as bytes."""

from answeredsettings.boards import HEAR
from answeredsettings.checks import is_between, is_one_of, is_row, is_word
from answeredsettings.errors import BadBytes, BadMove
from answeredsettings.machine import Machine
from answeredsettings.pacts import check_name

# The number of a kind is its place in this row, counted from 1.
KINDS = ("set", "back", "answer", "no", "frame", "done")
WITH_WORD = ("set", "frame", "done")
WITH_NUMBER = ("set", "frame")
GREATEST = 3
# The bytes of the first and of the last small letter.
LOWEST_SIGN = 97
HIGHEST_SIGN = 122


def is_sendable(value):
    """Whether any value has the form of a letter with a word and a number from 0 to 3."""
    if not isinstance(value, tuple) or len(value) == 0 or not is_one_of(value[0], KINDS):
        return False
    if value[0] in WITH_NUMBER:
        return is_row(value, 3) and is_word(value[1]) and is_between(value[2], 0, GREATEST)
    if value[0] in WITH_WORD:
        return is_row(value, 2) and is_word(value[1])
    return is_row(value, 1)


def pack(letter):
    """The bytes of a letter."""
    if not is_sendable(letter):
        raise BadBytes(letter)
    data = bytes([KINDS.index(letter[0]) + 1])
    if letter[0] in WITH_WORD:
        data = data + bytes([len(letter[1])]) + letter[1].encode("ascii")
    if letter[0] in WITH_NUMBER:
        data = data + bytes([letter[2]])
    return data + bytes([int(sum(data)) % 256])


def word_of(data):
    """The word of a letter, from its bytes; the empty text if they bear none."""
    signs = data[2:2 + data[1]]
    if not all([LOWEST_SIGN <= sign <= HIGHEST_SIGN for sign in signs]):
        return ""
    return signs.decode("ascii")


def unpack(data):
    """The letter whose bytes these are."""
    if not isinstance(data, bytes) or len(data) < 2 or not 1 <= data[0] <= len(KINDS):
        raise BadBytes(data)
    letter = (KINDS[data[0] - 1],)
    if letter[0] in WITH_WORD:
        letter = letter + (word_of(data),)
    if letter[0] in WITH_NUMBER:
        letter = letter + (data[-2],)
    # Lengths and sums are right just if the letter goes as these very bytes.
    if not is_sendable(letter) or pack(letter) != data:
        raise BadBytes(data)
    return letter


class Wire:
    """A machine whose letters go as bytes, which come in pieces of any length."""

    def __init__(self, pact):
        self.machine = Machine(pact)
        self._kept = {"left": b"", "right": b""}

    def send(self, name, letter):
        """The bytes of a letter that an end sends."""
        check_name(name)
        move = (name, letter)
        # A hearing is a move of the machine, but no letter that is sent.
        if not is_sendable(letter):
            raise BadMove(move)
        self.machine(move)
        return pack(letter)

    def feed(self, name, data):
        """The list of the verdicts of the frames that an end hears as these bytes come to it."""
        check_name(name)
        if not isinstance(data, bytes):
            raise BadBytes(data)
        coming = [pack(letter) for letter in self.machine.lane(name)]
        came = self._kept[name] + data
        if not b"".join(coming).startswith(came):
            raise BadBytes(data)
        verdicts = []
        for letter in coming:
            if len(letter) > len(came):
                break
            came = came[len(letter):]
            verdict = self.machine((name, HEAR))
            if verdict is not None:
                verdicts.append(verdict)
        self._kept[name] = came
        return verdicts

    def kept(self, name):
        """The bytes towards an end that are no whole letter yet."""
        check_name(name)
        return self._kept[name]
