"""Claims about all weavings of a pact: which of them hold, and what shows that."""

from answeredsettings.boards import Board
from answeredsettings.checks import is_between, is_integer, is_one_of, is_row
from answeredsettings.errors import BadClaim
from answeredsettings.pacts import NAMES, check_pact
from answeredsettings.search import reached
from answeredsettings.shapes import has_watched_form
from answeredsettings.spaces import way_to
from answeredsettings.states import lane_to
from answeredsettings.tables import is_table
from answeredsettings.verdicts import is_verdict

VERDICT_CLAIMS = ("kept", "unjudged")


def is_claim(pact, value):
    """Whether any value is a claim about a pact."""
    if not isinstance(value, tuple) or len(value) == 0 or not isinstance(value[0], str):
        return False
    if is_row(value, 2):
        return is_claim_of_two(pact, value[0], value[1])
    if not is_row(value, 3) or not is_one_of(value[1], NAMES):
        return False
    if value[0] == "lane":
        return is_integer(value[2]) and value[2] >= 0
    return value[0] in ("open", "owed") and is_between(value[2], 0, 3)


def is_claim_of_two(pact, kind, about):
    """Whether a kind of claim can be about any value."""
    if kind == "kept":
        return is_one_of(about, pact.words())
    if kind == "unjudged":
        return is_verdict(pact, about)
    return kind == "never" and has_watched_form(pact, about)


def check_claim(pact, claim):
    """Raise BadClaim for any value that is no claim about a pact."""
    if not is_claim(pact, claim):
        raise BadClaim(claim)


def is_state_against(claim, state):
    """Whether a watched state is against a claim."""
    kind = claim[0]
    if kind == "never":
        return state == claim[1]
    if kind in VERDICT_CLAIMS:
        return False
    place = NAMES.index(claim[1])
    if kind == "lane":
        return len(lane_to(state, place)) > claim[2]
    local = state[place]
    return len(local[1] if kind == "open" else local[2]) > claim[2]


def is_verdict_against(claim, verdict):
    """Whether what a step tells, a verdict or None, is against a claim."""
    if verdict is None:
        return False
    if claim[0] == "kept":
        return verdict[0] == claim[1] and verdict[3] != "kept"
    return claim[0] == "unjudged" and verdict == claim[1]


def verdict_steps_against(board, claim, state):
    """The list of the steps of a state of which the verdict is against a claim."""
    if claim[0] not in VERDICT_CLAIMS:
        return []
    rows = board.hearing_steps(state, 0) + board.hearing_steps(state, 1)
    return [row for row in rows if is_verdict_against(claim, row[2])]


def is_broken_in(board, claim, state):
    """Whether a state is against a claim, or has a step of which the verdict is."""
    return is_state_against(claim, state) or len(verdict_steps_against(board, claim, state)) > 0


def is_broken(board, claim, table):
    """Whether some state of a table is against a claim, or some verdict of a frame heard in one."""
    for state in table:
        if is_broken_in(board, claim, state):
            return True
    return False


def first_against(board, claim, came):
    """A weaving with the fewest moves that breaks a claim, None if none does.

    The states that can be come to are given with the nearest to the start first.
    """
    for state in came:
        if is_state_against(claim, state):
            return way_to(came, state)
    for state in came:
        rows = verdict_steps_against(board, claim, state)
        if len(rows) > 0:
            return way_to(came, state) + [rows[0][0]]
    return None


def holds(pact, claim):
    """Whether a claim is so for all weavings."""
    check_pact(pact)
    check_claim(pact, claim)
    board = Board(pact)
    return not is_broken(board, claim, reached(board))


def is_shown(pact, value, claim):
    """Whether any value is a closed table that shows a claim."""
    check_pact(pact)
    check_claim(pact, claim)
    return is_table(pact, value) and not is_broken(Board(pact), claim, value)


def against(pact, claim):
    """A weaving over watched states with the fewest moves that breaks a claim, None if it holds."""
    check_pact(pact)
    check_claim(pact, claim)
    board = Board(pact)
    return first_against(board, claim, reached(board))
