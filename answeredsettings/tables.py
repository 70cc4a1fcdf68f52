"""Tables: lists of watched states, which are closed if no move leads out of them."""

from answeredsettings.boards import Board
from answeredsettings.errors import BadArgument
from answeredsettings.pacts import check_pact
from answeredsettings.search import states
from answeredsettings.shapes import has_watched_form


def has_table_form(pact, value):
    """Whether any value is a list or tuple of values that have the form of watched states."""
    if not isinstance(value, (list, tuple)):
        return False
    return all([has_watched_form(pact, state) for state in value])


def check_table(pact, table):
    """Raise BadArgument for any value that is no table."""
    if not has_table_form(pact, table):
        raise BadArgument(table)


def lacked(board, table):
    """A dict of the states that a table lacks: the first one, and those behind its own ones."""
    inside = {state: True for state in table}
    missing = {}
    if board.first not in inside:
        missing[board.first] = True
    for state in inside:
        for _, behind, _ in board.watched_steps(state):
            if behind not in inside:
                missing[behind] = True
    return missing


def table_of(pact):
    """The least closed table: the list of all watched states that can be come to."""
    return states(pact)


def is_table(pact, value):
    """Whether any value is a closed table."""
    check_pact(pact)
    return has_table_form(pact, value) and len(lacked(Board(pact), value)) == 0


def lacking(pact, table):
    """The list of the states that a table lacks at the first step, in the order of their texts."""
    check_pact(pact)
    check_table(pact, table)
    return sorted(list(lacked(Board(pact), table)), key=str)


def joined(pact, *tables):
    """The list of all states of some tables, in the order of their texts."""
    check_pact(pact)
    for table in tables:
        check_table(pact, table)
    return sorted(list({state: True for table in tables for state in table}), key=str)
