"""How many weavings there are with so many moves, and which are the shortest to a state."""

from answeredsettings.boards import Board
from answeredsettings.checks import is_between
from answeredsettings.errors import BadNumber, TooMany
from answeredsettings.pacts import check_pact
from answeredsettings.search import reached
from answeredsettings.shapes import has_watched_form
from answeredsettings.spaces import LIMIT

MOST_MOVES = 8


def layer_behind(board, layer):
    """A dict from the states one move behind those of a layer to the numbers of weavings to them."""
    behind = {}
    for state in layer:
        for _, other, _ in board.steps(state):
            behind[other] = behind.get(other, 0) + layer[state]
        if len(behind) > LIMIT:
            raise TooMany(LIMIT)
    return behind


def count_weavings(pact, length):
    """How many weavings have this number of moves, with any number of frames under way."""
    check_pact(pact)
    if not is_between(length, 0, MOST_MOVES):
        raise BadNumber(length)
    board = Board(pact)
    layer = {board.first: 1}
    for _ in range(length):
        layer = layer_behind(board, layer)
    many = 0
    for state in layer:
        many += layer[state]
    return many


def depths(came):
    """A dict from states that can be come to, the nearest first, to the fewest moves to them."""
    found = {}
    for state in came:
        before = came[state]
        found[state] = 0 if before is None else found[before[0]] + 1
    return found


def shortest_counts(board, depth):
    """A dict from all states that can be come to to the numbers of shortest weavings to them."""
    counts = {board.first: 1}
    for state in depth:
        for _, behind, _ in board.watched_steps(state):
            if depth[behind] == depth[state] + 1:
                counts[behind] = counts.get(behind, 0) + counts[state]
    return counts


def ways_towards(board, depth, goal):
    """A dict from the states of the shortest weavings to a goal to dicts from their moves to the next states."""
    ways = {goal: {}}
    # The states behind a state come ahead of it here, so that it is known which of them lead to the goal.
    for state in list(depth)[::-1]:
        if depth[state] < depth[goal]:
            rows = [row for row in board.watched_steps(state) if row[1] in ways and depth[row[1]] == depth[state] + 1]
            if len(rows) > 0:
                ways[state] = {move: behind for move, behind, _ in rows}
    return ways


def count_shortest(pact, state):
    """How many weavings with the fewest moves lead to a watched state, 0 if it cannot be come to, any value."""
    check_pact(pact)
    if not has_watched_form(pact, state):
        return 0
    board = Board(pact)
    return shortest_counts(board, depths(reached(board))).get(state, 0)


def shortest_weavings(pact, state):
    """All weavings with the fewest moves to a watched state, in ascending order of their texts."""
    check_pact(pact)
    if has_watched_form(pact, state):
        board = Board(pact)
        depth = depths(reached(board))
        if state in depth:
            ways = ways_towards(board, depth, state)
            waiting = [(board.first, [])]
            while len(waiting) > 0:
                known, moves = waiting.pop()
                if known == state:
                    yield moves
                # What is put down last is taken up first.
                for move in sorted(list(ways[known]), key=str)[::-1]:
                    waiting.append((ways[known][move], moves + [move]))
