"""Searches through all that steps lead to.

A space has a first node, and tells of each node its steps: tuples (move, node behind it, verdict or None).
"""

from answeredsettings.errors import TooMany

LIMIT = 30000


def gathered(space):
    """A dict from all nodes of a space, the nearest first, to (node ahead, move), None if there are too many.

    The first node has None.
    """
    came = {space.first: None}
    waiting = [space.first]
    at = 0
    while at < len(waiting):
        node = waiting[at]
        for move, behind, _ in space.steps_from(node):
            if behind not in came:
                came[behind] = (node, move)
                waiting.append(behind)
        if len(came) > LIMIT:
            return None
        at += 1
    return came


def all_nodes(space):
    """The dict of gathered; TooMany is raised if there are more nodes than the limit."""
    came = gathered(space)
    if came is None:
        raise TooMany(LIMIT)
    return came


def way_to(came, node):
    """The moves by which a node was come to."""
    moves = []
    while came[node] is not None:
        node, move = came[node]
        moves.append(move)
    return moves[::-1]


def rounds_back(ahead, lasts):
    """A dict from all nodes from which steps lead to some last ones to the fewest steps that do.

    ahead has, for each node, the list of the nodes of which a step leads to it.
    """
    rounds = {node: 0 for node in lasts}
    waiting = list(rounds)
    at = 0
    while at < len(waiting):
        node = waiting[at]
        for before in ahead.get(node, []):
            if before not in rounds:
                rounds[before] = rounds[node] + 1
                waiting.append(before)
        at += 1
    return rounds


class WatchedSpace:
    """All watched states of a pact."""

    def __init__(self, board):
        self.first = board.first
        self.board = board

    def steps_from(self, state):
        """The steps of a watched state that lead to watched states."""
        return self.board.watched_steps(state)


class BareSpace:
    """All bare states of a pact."""

    def __init__(self, board):
        self.first = board.first
        self.board = board

    def steps_from(self, state):
        """The steps of a bare state that lead to bare states."""
        return self.board.bare_steps(state)
