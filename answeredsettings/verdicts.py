"""Which verdicts the frames of all weavings can have."""

from answeredsettings.boards import Board
from answeredsettings.checks import is_between, is_one_of, is_row
from answeredsettings.errors import BadArgument, BadName
from answeredsettings.fates import fate_of
from answeredsettings.pacts import check_pact
from answeredsettings.search import reached
from answeredsettings.spaces import way_to


def first_hearings(board, came):
    """A dict from each verdict to (state, move): a hearing with it that is the nearest to the start."""
    firsts = {}
    for state in came:
        for place in range(2):
            for move, _, verdict in board.hearing_steps(state, place):
                if verdict is not None and verdict not in firsts:
                    firsts[verdict] = (state, move)
    return firsts


def all_verdicts(pact):
    """The list of the verdicts of all frames of all weavings, in the order of their texts."""
    board = Board(pact)
    return sorted(list(first_hearings(board, reached(board))), key=str)


def is_verdict(pact, value):
    """Whether a value has the form of a verdict."""
    if not is_row(value, 4) or not is_one_of(value[0], pact.words()):
        return False
    word, number, judged, fate = value
    setting = pact.setting(word)
    # For rooms the number counts the frames that would be held, this one with them.
    lowest = 1 if setting.kind == "room" else 0
    if not is_between(number, lowest, lowest + setting.size - 1) or not is_between(judged, 0, setting.size - 1):
        return False
    return is_one_of(fate, (fate_of(setting.kind, number, judged),))


def verdicts(pact, word):
    """The list of all verdicts that frames by a setting can have."""
    check_pact(pact)
    if not is_one_of(word, pact.words()):
        raise BadName(word)
    return [verdict for verdict in all_verdicts(pact) if verdict[0] == word]


def offences(pact):
    """The list of all verdicts that frames can have whose fate is not to be kept."""
    check_pact(pact)
    return [verdict for verdict in all_verdicts(pact) if verdict[3] != "kept"]


def is_sound(pact):
    """Whether all frames of all weavings are kept."""
    return len(offences(pact)) == 0


def weaving_with(pact, verdict):
    """A weaving over watched states with the fewest moves whose last one brings a verdict, None if there is none."""
    check_pact(pact)
    if not is_verdict(pact, verdict):
        raise BadArgument(verdict)
    board = Board(pact)
    came = reached(board)
    firsts = first_hearings(board, came)
    if verdict not in firsts:
        return None
    state, move = firsts[verdict]
    return way_to(came, state) + [move]
