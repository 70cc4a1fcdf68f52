"""The places by which frames are made, and the marks with which their owner can tell them."""

from answeredsettings.boards import Board
from answeredsettings.checks import is_integer
from answeredsettings.errors import BadName
from answeredsettings.pacts import NAMES, check_pact
from answeredsettings.spaces import all_nodes, way_to


def place_in_use(side, local, word):
    """By which place an end makes a frame to a setting of the other end in a local state."""
    place = 0
    if side.mine.use(word) == "heard":
        for at, change in enumerate(local[2]):
            if change[0] == word and change[2] == 0:
                place = at + 1
    return place


class PlacedSpace:
    """The watched states with at most a frame to one setting under way, and the place of this frame.

    A node is (state, place), with None for the place as long as there is no such frame.
    """

    def __init__(self, board, word, hearer):
        self.first = (board.first, None)
        self.board = board
        self.word = word
        self.hearer = hearer

    def steps_from(self, node):
        """The steps of a state with the place of the frame, which is fixed when the frame is sent."""
        state, place = node
        rows = []
        for move, behind, verdict in self.board.watched_steps(state):
            letter = move[1]
            if not self.board.is_watched(letter):
                gone = verdict is not None and verdict[0] == self.word
                rows.append((move, (behind, None if gone else place), verdict))
            elif letter[1] == self.word:
                maker = 1 - self.hearer
                made = place_in_use(self.board.sides[maker], state[maker], self.word)
                rows.append((move, (behind, made), verdict))
        return rows


def check_marked_word(pact, word):
    """Raise BadName for any value that is no word of a size or a table of a pact."""
    # A value that is no word at all is found out by the pact.
    if pact.setting(word).kind == "room":
        raise BadName(word)


def hearings(space):
    """How the frames to a setting are heard: (nodes that can be come to, nearest hearings).

    The second one is a dict from (local state of the owner, place of the frame) to (node, move), nearest first.
    """
    came = all_nodes(space)
    nearest = {}
    for node in came:
        state, place = node
        for move, _, verdict in space.board.hearing_steps(state, space.hearer):
            key = (state[space.hearer], place)
            if verdict is not None and verdict[0] == space.word and key not in nearest:
                nearest[key] = (node, move)
    return (came, nearest)


def hearings_of(pact, word):
    """The hearings of the frames to a size or a table of a pact."""
    check_pact(pact)
    check_marked_word(pact, word)
    return hearings(PlacedSpace(Board(pact), word, NAMES.index(pact.owner(word))))


def places_by_local(nearest):
    """A dict from the local states in which frames are heard to the lists of their places."""
    found = {}
    for local, place in nearest:
        if local in found:
            found[local].append(place)
        else:
            found[local] = [place]
    return found


def are_unlike(rows, modulus):
    """Whether the integers in each of some lists are unlike modulo a number."""
    for row in rows:
        if len({int(place) % modulus: True for place in row}) < len(row):
            return False
    return True


def places(pact, word):
    """The ascending list of the places of all frames to a setting that are heard in some weaving."""
    _, nearest = hearings_of(pact, word)
    return sorted(list({place: True for _, place in nearest}), key=int)


def spread(pact, word):
    """The greatest number of changes of a setting that stand open behind the place of a frame that is heard.

    None if no frame to it is ever heard.
    """
    _, nearest = hearings_of(pact, word)
    greatest = None
    for local, place in nearest:
        many = len([change for change in local[1][place:] if change[0] == word])
        if greatest is None or many > greatest:
            greatest = many
    return greatest


def least_marks(pact, word):
    """The least M with which a frame's place modulo M always tells its owner the place.

    None if no frame to the setting is ever heard.
    """
    _, nearest = hearings_of(pact, word)
    if len(nearest) == 0:
        return None
    rows = list(places_by_local(nearest).values())
    modulus = 1
    while not are_unlike(rows, modulus):
        modulus += 1
    return modulus


def place_weaving(pact, word, place):
    """A weaving with the fewest moves whose last one hears a frame with a place, None if there is none."""
    came, nearest = hearings_of(pact, word)
    if not is_integer(place):
        return None
    for local, known in nearest:
        if known == place:
            node, move = nearest[(local, known)]
            return way_to(came, node) + [move]
    return None
