"""Whether, and after how many moves, answers to changes can come."""

from answeredsettings.boards import HEAR, Board
from answeredsettings.errors import BadState, TooMany
from answeredsettings.pacts import NAMES, check_name, check_pact
from answeredsettings.search import reached
from answeredsettings.shapes import has_watched_form
from answeredsettings.spaces import LIMIT, WatchedSpace, gathered, rounds_back, way_to
from answeredsettings.states import lane_to


def is_bare(board, state):
    """Whether no frame to a size or a table is in the lanes of a state."""
    return board.under_way(state) == 0


def bare_states(board, came):
    """The list of the bare ones of the states that can be come to, in the same order."""
    return [state for state in came if is_bare(board, state)]


def is_something_open(state, place):
    """Whether a change of the end at a place is open."""
    return len(state[place][1]) > 0


def is_something_left(state):
    """Whether something is open or owed at some end."""
    return len(state[0][1] + state[0][2] + state[1][1] + state[1][2]) > 0


def is_stuck(board, state):
    """Whether no move can be made in a state though something is open or owed."""
    return is_something_left(state) and len(board.steps(state)) == 0


def hears_answer(board, state, place, move):
    """Whether a move is the hearing of an answer by the end at a place."""
    if move != (board.sides[place].label, HEAR):
        return False
    return lane_to(state, place)[0] in (("answer",), ("no",))


def waits(board, bare, place):
    """A dict from the bare states in which something of an end is open to the fewest moves to an answer.

    States from which no weaving leads to an answer are not in it.
    """
    ahead = {}
    lasts = []
    for state in bare:
        if is_something_open(state, place):
            for move, behind, _ in board.bare_steps(state):
                if hears_answer(board, state, place, move):
                    lasts.append(state)
                elif behind in ahead:
                    ahead[behind].append(state)
                else:
                    ahead[behind] = [state]
    rounds = rounds_back(ahead, lasts)
    return {state: rounds[state] + 1 for state in rounds}


def lost_ones(board, bare, place):
    """The list of the bare states in which something of an end is open and no answer can come."""
    known = waits(board, bare, place)
    return [state for state in bare if is_something_open(state, place) and state not in known]


def stuck_states(pact):
    """The list of the bare stuck states that can be come to, in the order of their texts."""
    check_pact(pact)
    board = Board(pact)
    return sorted([state for state in reached(board) if is_stuck(board, state)], key=str)


def first_stuck(pact):
    """A weaving with the fewest moves to a stuck state, None if there is none."""
    check_pact(pact)
    board = Board(pact)
    came = reached(board)
    for state in came:
        if is_stuck(board, state):
            return way_to(came, state)
    return None


def fewest_to_answer(pact, state, name):
    """The fewest moves from a bare state to an answer that an end hears, None if none can come."""
    check_pact(pact)
    board = Board(pact)
    if not has_watched_form(pact, state) or not is_bare(board, state):
        raise BadState(state)
    came = gathered(WatchedSpace(board))
    # A wrong name is told ahead of too many states, but behind a state that cannot be come to.
    if came is not None and state not in came:
        raise BadState(state)
    check_name(name)
    if came is None:
        raise TooMany(LIMIT)
    place = NAMES.index(name)
    if not is_something_open(state, place):
        return 0
    return waits(board, bare_states(board, came), place).get(state, None)


def lost_states(pact, name):
    """The list of the bare states that can be come to in which an open change of an end is lost, by text."""
    check_pact(pact)
    check_name(name)
    board = Board(pact)
    return sorted(lost_ones(board, bare_states(board, reached(board)), NAMES.index(name)), key=str)


def first_lost(pact, name):
    """A weaving with the fewest moves to a state in which a change of an end is lost, None if there is none."""
    check_pact(pact)
    check_name(name)
    board = Board(pact)
    came = reached(board)
    lost = lost_ones(board, bare_states(board, came), NAMES.index(name))
    return None if len(lost) == 0 else way_to(came, lost[0])


def greatest_wait(pact, name):
    """The greatest of the fewest moves to an answer that an end hears, None if a change can be lost."""
    check_pact(pact)
    check_name(name)
    board = Board(pact)
    bare = bare_states(board, reached(board))
    place = NAMES.index(name)
    known = waits(board, bare, place)
    greatest = 0
    for state in bare:
        if is_something_open(state, place):
            if state not in known:
                return None
            if known[state] > greatest:
                greatest = known[state]
    return greatest
