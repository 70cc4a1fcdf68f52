"""The state of a pact at the start, and how a state changes when a letter is sent or heard.

A state is (left, right, to_right, to_left): two local states and two lanes. A local state is
(base, opened, owed, used, credit, held). The left end has place 0, the right one place 1.
"""

from answeredsettings.pacts import check_pact


def starts(end):
    """The start values of the settings of an end, ascending by word."""
    return tuple([end.setting(word).start for word in end.words()])


def rooms(end):
    """The words of the rooms of an end, ascending."""
    return [word for word in end.words() if end.setting(word).kind == "room"]


def first_local(end, other):
    """The local state of an end at the start."""
    return (starts(end), (), (), starts(other), (0,) * len(rooms(other)), (0,) * len(rooms(end)))


def first_state(pact):
    """The state of a pact at the start."""
    check_pact(pact)
    return (first_local(pact.left, pact.right), first_local(pact.right, pact.left), (), ())


def lane_to(state, place):
    """The letters in the lane towards the end at a place."""
    return state[3 - place]


def behind_send(state, place, local, letter):
    """The state behind a send, with the local state that the end at this place then has."""
    left, right, to_right, to_left = state
    if place == 0:
        return (local, right, to_right + (letter,), to_left)
    return (left, local, to_right, to_left + (letter,))


def behind_hearing(state, place, local):
    """The state behind a hearing, with the local state that the end at this place then has."""
    left, right, to_right, to_left = state
    if place == 0:
        return (local, right, to_right, to_left[1:])
    return (left, local, to_right[1:], to_left)
