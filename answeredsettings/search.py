"""Which watched states can be come to, and by which weavings with the fewest moves."""

from answeredsettings.boards import Board
from answeredsettings.errors import BadState
from answeredsettings.pacts import check_pact
from answeredsettings.shapes import has_watched_form
from answeredsettings.spaces import WatchedSpace, all_nodes, way_to


def reached(board):
    """A dict from all watched states that can be come to, the nearest first, to (state ahead, move)."""
    return all_nodes(WatchedSpace(board))


def check_state(pact, state):
    """Raise BadState for any value that has not the form of a watched state."""
    if not has_watched_form(pact, state):
        raise BadState(state)


def states(pact):
    """The list of all watched states that can be come to, in the order of their texts."""
    check_pact(pact)
    return sorted(list(reached(Board(pact))), key=str)


def can_come(pact, value):
    """Whether any value is a watched state that can be come to."""
    check_pact(pact)
    return has_watched_form(pact, value) and value in reached(Board(pact))


def weaving_to(pact, state):
    """A weaving over watched states with the fewest moves to a state, None if it cannot be come to."""
    check_pact(pact)
    check_state(pact, state)
    came = reached(Board(pact))
    return way_to(came, state) if state in came else None


def fewest_moves(pact, state):
    """How many moves the shortest weavings to a state have, None if it cannot be come to."""
    weaving = weaving_to(pact, state)
    return None if weaving is None else len(weaving)
