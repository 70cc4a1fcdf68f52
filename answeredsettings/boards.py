"""A pact as it is played: which moves a state has, and where each of them leads."""

from answeredsettings.checks import is_integer, is_row
from answeredsettings.sides import Side
from answeredsettings.states import behind_hearing, behind_send, first_state, lane_to

HEAR = ("hear",)


def is_like_move(value):
    """Whether a value is a name with a tuple of texts and integers, so that it can be compared with moves."""
    # True and other numbers would be equal to the integers of a move, and are none.
    if not is_row(value, 2) or not isinstance(value[0], str) or not isinstance(value[1], tuple):
        return False
    return all([isinstance(part, str) or is_integer(part) for part in value[1]])


class Board:
    """Both ends of a pact, and the steps of its states: tuples (move, state behind it, verdict or None)."""

    def __init__(self, pact):
        self.first = first_state(pact)
        self.sides = (Side(pact, "left"), Side(pact, "right"))
        self.watched = {word: True for word in pact.words() if pact.setting(word).kind != "room"}

    def send_steps(self, state, place):
        """The list of the steps at which the end at a place sends a letter, in the order of moves."""
        side = self.sides[place]
        rows = []
        for letter, local in side.sends(state[place]):
            rows.append(((side.label, letter), behind_send(state, place, local, letter), None))
        return rows

    def hearing_steps(self, state, place):
        """The list of the step at which the end at a place hears a letter, empty if none waits."""
        side = self.sides[place]
        lane = lane_to(state, place)
        if len(lane) == 0:
            return []
        local, verdict = side.hears(state[place], lane[0])
        return [((side.label, HEAR), behind_hearing(state, place, local), verdict)]

    def steps_of(self, state, place):
        """The list of all steps of the end at a place, in the order of moves."""
        return self.send_steps(state, place) + self.hearing_steps(state, place)

    def steps(self, state):
        """The list of all steps, in the order of moves."""
        return self.steps_of(state, 0) + self.steps_of(state, 1)

    def is_watched(self, letter):
        """Whether a letter is a frame to a size or a table."""
        return letter[0] == "frame" and letter[1] in self.watched

    def under_way(self, state):
        """How many frames to sizes and tables are in the lanes of a state."""
        return len([letter for letter in state[2] + state[3] if self.is_watched(letter)])

    def bare_steps(self, state):
        """The list of the steps of a state but for the sends of frames to sizes and tables."""
        return [row for row in self.steps(state) if not self.is_watched(row[0][1])]

    def watched_steps(self, state):
        """The list of the steps of a watched state that lead to watched states."""
        return self.steps(state) if self.under_way(state) == 0 else self.bare_steps(state)

    def step(self, state, move):
        """The state behind a move and the verdict, None for any value that is no move that can be made."""
        if not is_like_move(move):
            return None
        for known, behind, verdict in self.steps(state):
            if known == move:
                return (behind, verdict)
        return None
