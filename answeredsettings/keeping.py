"""What one end can keep by leaving out sends of its own, whatever else is done."""

from answeredsettings.boards import HEAR, Board
from answeredsettings.claims import check_claim, first_against, is_state_against, is_verdict_against
from answeredsettings.pacts import check_name, check_pact
from answeredsettings.search import check_state, reached
from answeredsettings.spaces import all_nodes, rounds_back


def check_all(pact, name, claim):
    """Raise BadArgument for no pact, then BadName for no name, then BadClaim for no claim."""
    check_pact(pact)
    check_name(name)
    check_claim(pact, claim)


def is_own_send(name, move):
    """Whether a move is a send of the end with this name."""
    return move[0] == name and move[1] != HEAR


def without_frame(board, state):
    """The state without its frame to a size or a table, the state itself if there is none."""
    left, right, to_right, to_left = state
    return (
        left,
        right,
        tuple([letter for letter in to_right if not board.is_watched(letter)]),
        tuple([letter for letter in to_left if not board.is_watched(letter)]),
    )


def forced_steps(board, name, state):
    """The list of the steps of a state that the end with this name cannot leave out."""
    return [row for row in board.watched_steps(state) if not is_own_send(name, row[0])]


def hopeless(board, name, claim, came):
    """A dict of the states that can be come to from which the end cannot keep the claim."""
    ahead = {state: [] for state in came}
    lasts = []
    for state in came:
        rows = forced_steps(board, name, state)
        if is_state_against(claim, state) or any([is_verdict_against(claim, row[2]) for row in rows]):
            lasts.append(state)
        for _, behind, _ in rows:
            ahead[behind].append(state)
        # With more frames under way the same can come as without this one.
        ahead[without_frame(board, state)].append(state)
    return rounds_back(ahead, lasts)


class SilentSpace:
    """The watched states that weavings without a send of one end come to."""

    def __init__(self, board, label):
        self.first = board.first
        self.board = board
        self.label = label

    def steps_from(self, state):
        """The steps that this end cannot leave out."""
        return forced_steps(self.board, self.label, state)


class KeptSpace:
    """The watched states that weavings come to while one end leaves out the sends to some states."""

    def __init__(self, board, label, barred):
        self.first = board.first
        self.board = board
        self.label = label
        self.barred = barred

    def steps_from(self, state):
        """The steps but for the sends of this end to a barred state."""
        rows = self.board.watched_steps(state)
        return [row for row in rows if row[1] not in self.barred or not is_own_send(self.label, row[0])]


def can_keep(pact, name, claim):
    """Whether an end can leave out sends so that nothing against a claim comes, whatever else is done."""
    return forcing(pact, name, claim) is None


def safe_sends(pact, name, claim, state):
    """The list of the sends of an end in a watched state behind which it still can keep a claim."""
    check_all(pact, name, claim)
    check_state(pact, state)
    board = Board(pact)
    came = reached(board)
    lost = hopeless(board, name, claim, came)
    if state not in came or state in lost:
        return []
    rows = board.watched_steps(state)
    return [move for move, behind, _ in rows if is_own_send(name, move) and behind not in lost]


def kept_states(pact, name, claim):
    """The list of the watched states that can be come to while an end leaves out the sends that are not safe."""
    check_all(pact, name, claim)
    board = Board(pact)
    lost = hopeless(board, name, claim, reached(board))
    if board.first in lost:
        return []
    return sorted(list(all_nodes(KeptSpace(board, name, lost))), key=str)


def forcing(pact, name, claim):
    """A weaving with the fewest moves, none of them a send of an end, that breaks a claim; None if it can keep it."""
    check_all(pact, name, claim)
    board = Board(pact)
    # All states are counted, though only those without a send of this end are gone through.
    reached(board)
    return first_against(board, claim, all_nodes(SilentSpace(board, name)))
