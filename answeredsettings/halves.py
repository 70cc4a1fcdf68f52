"""Halves: tables of one end, with what it takes for granted of the other one, and whether two of them join."""

from answeredsettings.boards import HEAR, Board
from answeredsettings.errors import BadArgument, BadHalf, BadState
from answeredsettings.pacts import NAMES, check_name, check_pact
from answeredsettings.search import reached
from answeredsettings.shapes import is_letter, is_local
from answeredsettings.sides import Side
from answeredsettings.spaces import way_to
from answeredsettings.states import first_local, lane_to


def can_be_heard(pact, name, local, value):
    """Whether any value is a letter that an end can hear in a local state."""
    other = pact.other(name)
    if not is_letter(pact, other, value):
        return False
    if value[0] == "set":
        return len(local[2]) < pact.end(other).most
    if value[0] in ("answer", "no"):
        return len(local[1]) > 0
    if value[0] == "done":
        return local[4][0] > 0
    return True


def are_heard(pact, name, local, value):
    """Whether any value is a list of letters that an end can hear in a local state."""
    return isinstance(value, list) and all([can_be_heard(pact, name, local, letter) for letter in value])


def are_half_rows(pact, name, value):
    """Whether any value is a dict from local states of an end to lists of letters that it can hear there."""
    if not isinstance(value, dict):
        return False
    return all([is_local(pact, name, local) and are_heard(pact, name, local, value[local]) for local in list(value)])


def by_text(values):
    """The list of some values without doubles, in the order of their texts."""
    return sorted(list({value: True for value in values}), key=str)


class Half:
    """Some local states of an end, and for each of them the letters that it takes for granted."""

    def __init__(self, pact, name, rows):
        check_pact(pact)
        check_name(name)
        if not are_half_rows(pact, name, rows):
            raise BadHalf(rows)
        self._pact = pact
        self._name = name
        self._rows = {local: by_text(rows[local]) for local in by_text(list(rows))}

    @property
    def pact(self):
        """The pact of the end."""
        return self._pact

    @property
    def name(self):
        """The name of the end."""
        return self._name

    def is_of_same_end(self, value):
        """Whether any value is a half of the same end of the same pact."""
        return isinstance(value, Half) and self._pact == value._pact and self._name == value._name

    def grants(self, local, letter):
        """Whether it has a local state, and takes a letter for granted there."""
        return local in self._rows and letter in self._rows[local]

    def __contains__(self, x):
        return is_local(self._pact, self._name, x) and x in self._rows

    def __getitem__(self, at):
        if at not in self:
            raise BadState(at)
        return list(self._rows[at])

    def __len__(self):
        return len(self._rows)

    def __iter__(self):
        return iter(self._rows)

    def __add__(self, other):
        if not self.is_of_same_end(other):
            raise BadArgument(other)
        locals_of_both = list(self._rows) + list(other._rows)
        rows = {local: self._rows.get(local, []) + other._rows.get(local, []) for local in locals_of_both}
        return Half(self._pact, self._name, rows)

    def __le__(self, other):
        if not self.is_of_same_end(other):
            return False
        # A local state without letters asks for its place alone.
        if not all([local in other._rows for local in list(self._rows)]):
            return False
        return all([letter in other._rows[local] for local in list(self._rows) for letter in self._rows[local]])

    def __eq__(self, other):
        return (
            isinstance(other, Half)
            and self._pact == other._pact
            and self._name == other._name
            and self._rows == other._rows
        )

    def fault(self):
        """None if it is closed, else ("start",), or the first local state and letter that lead out of it."""
        end = self._pact.end(self._name)
        if first_local(end, self._pact.end(self._pact.other(self._name))) not in self._rows:
            return ("start",)
        side = Side(self._pact, self._name)
        for local in self._rows:
            behind = {letter: other for letter, other in side.sends(local)}
            for letter in by_text(list(behind)):
                if behind[letter] not in self._rows:
                    return ("sends", local, letter)
            for letter in self._rows[local]:
                if side.hears(local, letter)[0] not in self._rows:
                    return ("hears", local, letter)
        return None

    def verdicts(self):
        """The list of the verdicts of all frames that it takes for granted."""
        side = Side(self._pact, self._name)
        told = [side.hears(local, letter)[1] for local in self._rows for letter in self._rows[local]]
        return by_text([verdict for verdict in told if verdict is not None])


def half_of(pact, name):
    """The half with just the local states that an end comes to, and the letters that it hears there."""
    check_pact(pact)
    check_name(name)
    place = NAMES.index(name)
    heard = {}
    for state in reached(Board(pact)):
        letters = heard.setdefault(state[place], {})
        for letter in lane_to(state, place)[:1]:
            letters[letter] = True
    return Half(pact, name, {local: list(heard[local]) for local in heard})


def check_halves(left, right):
    """Raise BadArgument for the first of two values that is no half of its end, or of another pact."""
    if not isinstance(left, Half) or left.name != "left":
        raise BadArgument(left)
    if not isinstance(right, Half) or right.name != "right" or right.pact != left.pact:
        raise BadArgument(right)


def joins(left, right):
    """None if two halves join, else a shortest weaving whose last move hears what is not taken for granted."""
    check_halves(left, right)
    halves = (left, right)
    came = reached(Board(left.pact))
    for state in came:
        for place, half in enumerate(halves):
            for letter in lane_to(state, place)[:1]:
                if not half.grants(state[place], letter):
                    return way_to(came, state) + [(half.name, HEAR)]
    return None
