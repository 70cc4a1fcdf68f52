"""Where the frames to a room are: held, under way, given back, or lost."""

from answeredsettings.boards import Board
from answeredsettings.errors import BadName
from answeredsettings.pacts import NAMES, check_pact
from answeredsettings.spaces import BareSpace, all_nodes, way_to
from answeredsettings.states import lane_to


def check_room(pact, word):
    """Raise BadName for any value that is no word of a room of a pact."""
    # A value that is no word at all is found out by the pact.
    if pact.setting(word).kind != "room":
        raise BadName(word)


def bare_reached(pact, word):
    """A dict from all bare states that can be come to, the nearest first, to (state ahead, move)."""
    check_pact(pact)
    check_room(pact, word)
    return all_nodes(BareSpace(Board(pact)))


def places_in(state, word, owner):
    """The tuple (held, coming, going, lost) of a room in a state, with the place of its owner."""
    # An end owns at most one room, so there is just one number held, and just one credit.
    held = state[owner][5][0]
    coming = len([letter for letter in lane_to(state, owner) if letter == ("frame", word, 0)])
    going = len([letter for letter in lane_to(state, 1 - owner) if letter == ("done", word)])
    return (held, coming, going, state[1 - owner][4][0] - held - coming - going)


def greatest_of(pact, word, part):
    """The greatest number at one part of the places of a room, and a weaving with the fewest moves to it."""
    came = bare_reached(pact, word)
    owner = NAMES.index(pact.owner(word))
    greatest = None
    nearest = None
    # The nearest states come first, so a later one counts only if it has more.
    for state in came:
        many = places_in(state, word, owner)[part]
        if greatest is None or many > greatest:
            greatest = many
            nearest = state
    return (greatest, way_to(came, nearest))


def room_places(pact, word):
    """The ascending list of all tuples (held, coming, going, lost) of a room."""
    came = bare_reached(pact, word)
    owner = NAMES.index(pact.owner(word))
    return sorted(list({places_in(state, word, owner): True for state in came}), key=str)


def most_held(pact, word):
    """The greatest number of frames that a room holds, and a shortest weaving to such a state."""
    return greatest_of(pact, word, 0)


def most_lost(pact, word):
    """The greatest number of lost places of a room, and a shortest weaving to such a state."""
    return greatest_of(pact, word, 3)
