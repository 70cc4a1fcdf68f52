"""The graphs of the small pacts, told by the second stepping once for all tests."""

import functools

import stepping
from samples import small_pacts

PACTS = small_pacts()


@functools.lru_cache(maxsize=None)
def graph_of(name):
    """All watched states of a small pact with their steps; not to be changed."""
    return stepping.graph(PACTS[name])


@functools.lru_cache(maxsize=None)
def depths_of(name):
    """The fewest moves to each watched state of a small pact; not to be changed."""
    return stepping.depths(graph_of(name), stepping.start(PACTS[name]))


def each():
    """Rows of (name, pact, graph, fewest moves)."""
    for name, pact in PACTS.items():
        yield name, pact, graph_of(name), depths_of(name)


def moves_of(rows):
    """The moves of a weaving whose rows are (move, state, verdict)."""
    return [row[0] for row in rows]


def walked(pact, weaving):
    """The state behind a weaving over watched states, and the last verdict, told by the second stepping."""
    state, verdict = stepping.start(pact), None
    for move in weaving:
        (state, verdict), = [row[1:] for row in stepping.steps(pact, state) if row[0] == move]
    return state, verdict
