"""Papers that show how long an end waits for an answer, and that anybody checks row by row."""

from answeredsettings.boards import Board
from answeredsettings.checks import is_integer, is_row
from answeredsettings.errors import BadNumber
from answeredsettings.pacts import NAMES, check_name, check_pact
from answeredsettings.shapes import has_watched_form
from answeredsettings.spaces import BareSpace, all_nodes
from answeredsettings.waits import hears_answer, is_bare, is_something_open, waits


def is_number(value):
    """Whether any value is an integer of at least 0."""
    return is_integer(value) and value >= 0


def is_paper_row(pact, board, value):
    """Whether any value is a pair of a bare state and a number."""
    return is_row(value, 2) and has_watched_form(pact, value[0]) and is_bare(board, value[0]) and is_number(value[1])


def has_paper_form(pact, board, value):
    """Whether any value is a list or tuple of pairs of unlike bare states and numbers."""
    if not isinstance(value, (list, tuple)) or not all([is_paper_row(pact, board, row) for row in value]):
        return False
    return len({state: True for state, _ in value}) == len(value)


def is_number_shown(board, paper, place, state):
    """Whether a move from a state of a closed paper shows that its number is great enough for the end at a place."""
    if paper[state] < 1:
        return False
    for move, behind, _ in board.bare_steps(state):
        if hears_answer(board, state, place, move):
            return True
        if is_something_open(behind, place) and paper[behind] < paper[state]:
            return True
    return False


def is_closed(board, paper):
    """Whether a paper has the first state, and each one to which a move from one of its states leads."""
    if board.first not in paper:
        return False
    return all([row[1] in paper for state in paper for row in board.bare_steps(state)])


def wait_paper(pact, name):
    """A wait paper with the greatest wait of an end, None if a change of it can be lost."""
    check_pact(pact)
    check_name(name)
    board = Board(pact)
    place = NAMES.index(name)
    bare = list(all_nodes(BareSpace(board)))
    known = waits(board, bare, place)
    if not all([state in known for state in bare if is_something_open(state, place)]):
        return None
    return sorted([(state, known.get(state, 0)) for state in bare], key=str)


def is_wait_paper(pact, value, name, many):
    """Whether any value is a wait paper for an end and a number."""
    check_pact(pact)
    check_name(name)
    if not is_number(many):
        raise BadNumber(many)
    board = Board(pact)
    if not has_paper_form(pact, board, value):
        return False
    paper = {state: number for state, number in value}
    if not is_closed(board, paper) or not all([paper[state] <= many for state in paper]):
        return False
    place = NAMES.index(name)
    open_ones = [state for state in paper if is_something_open(state, place)]
    return all([is_number_shown(board, paper, place, state) for state in open_ones])
