"""A machine that plays a pact, with all frames in its lanes."""

from answeredsettings.boards import Board
from answeredsettings.errors import BadMove, BadScript
from answeredsettings.pacts import NAMES, check_name, check_pact
from answeredsettings.states import lane_to


class Machine:
    """A pact that is played move by move, from its start on."""

    def __init__(self, pact):
        check_pact(pact)
        self._pact = pact
        self._board = Board(pact)
        self._state = self._board.first
        self._told = []

    @property
    def pact(self):
        """The pact that is played."""
        return self._pact

    @property
    def state(self):
        """The state as it is now."""
        return self._state

    def local(self, name):
        """The local state of an end."""
        check_name(name)
        return self._state[NAMES.index(name)]

    def lane(self, name):
        """The list of the letters in the lane towards an end, the oldest first."""
        check_name(name)
        return list(lane_to(self._state, NAMES.index(name)))

    def moves(self, name=None):
        """The list of all moves that can be made, or of those of one end."""
        if name is None:
            return [row[0] for row in self._board.steps(self._state)]
        check_name(name)
        return [row[0] for row in self._board.steps_of(self._state, NAMES.index(name))]

    def __call__(self, move):
        step = self._board.step(self._state, move)
        if step is None:
            raise BadMove(move)
        self._state, verdict = step
        if verdict is not None:
            self._told.append(verdict)
        return verdict

    def verdicts(self):
        """The list of all verdicts so far, the oldest first."""
        return list(self._told)

    def play(self, weaving):
        """Make all moves of a weaving, or none if one of them cannot be made."""
        if not isinstance(weaving, list):
            raise BadScript(0)
        state = self._state
        told = []
        for at, move in enumerate(weaving):
            step = self._board.step(state, move)
            if step is None:
                raise BadScript(at)
            state, verdict = step
            if verdict is not None:
                told.append(verdict)
        self._state = state
        self._told = self._told + told

    def copied(self):
        """A machine that stands where this one does and goes on by itself."""
        machine = Machine(self._pact)
        # What the board has worked out so far holds for both.
        machine._board = self._board
        machine._state = self._state
        machine._told = list(self._told)
        return machine


def played(pact, weaving):
    """A machine that has played a weaving from the start on."""
    machine = Machine(pact)
    machine.play(weaving)
    return machine


def states_of(pact, weaving):
    """All states of a weaving: the first one, and the one behind each move."""
    check_pact(pact)
    if not isinstance(weaving, list):
        raise BadScript(0)
    board = Board(pact)
    state = board.first
    # The caller may change the list between two states.
    moves = list(weaving)
    yield state
    for at, move in enumerate(moves):
        step = board.step(state, move)
        if step is None:
            raise BadScript(at)
        state = step[0]
        yield state
