"""Whether a value has the form of a watched state of a pact."""

from answeredsettings.checks import is_between, is_one_of, is_row
from answeredsettings.states import rooms


def are_values(pact, words, value):
    """Whether a value is a tuple of one value for each of some settings."""
    if not is_row(value, len(words)):
        return False
    return all([is_between(one, 0, pact.setting(word).size - 1) for word, one in zip(words, value)])


def is_change(pact, words, value):
    """Whether a value is an open or owed change of one of some settings."""
    if not is_row(value, 3) or not is_one_of(value[0], words):
        return False
    return is_between(value[1], 0, pact.setting(value[0]).size - 1) and is_between(value[2], 0, 1)


def are_changes(pact, end, value):
    """Whether a value is a tuple of changes of an end, at most as many as may be open."""
    if not isinstance(value, tuple) or len(value) > end.most:
        return False
    return all([is_change(pact, end.words(), one) for one in value])


def is_local(pact, name, value):
    """Whether a value has the form of a local state of an end."""
    end = pact.end(name)
    other = pact.end(pact.other(name))
    if not is_row(value, 6):
        return False
    base, opened, owed, used, credit, held = value
    return (
        are_values(pact, end.words(), base)
        and are_changes(pact, end, opened)
        and are_changes(pact, other, owed)
        and are_values(pact, other.words(), used)
        and are_values(pact, rooms(other), credit)
        and are_values(pact, rooms(end), held)
    )


def is_frame(pact, words, value):
    """Whether a letter of this kind is a frame to one of some settings."""
    if not is_row(value, 3) or not is_one_of(value[1], words):
        return False
    setting = pact.setting(value[1])
    return is_between(value[2], 0, 0 if setting.kind == "room" else setting.size - 1)


def is_letter(pact, name, value):
    """Whether a value has the form of a letter of an end, whatever its rules and changes let."""
    if not isinstance(value, tuple) or len(value) == 0 or not isinstance(value[0], str):
        return False
    end = pact.end(name)
    kind = value[0]
    if kind == "set":
        return len(value) == 3 and is_change(pact, end.words(), (value[1], value[2], 0))
    if kind == "done":
        return len(value) == 2 and is_one_of(value[1], rooms(end))
    if kind == "frame":
        return is_frame(pact, end.used_words(), value)
    return value in (("back",), ("answer",), ("no",))


def is_lane(pact, name, value):
    """Whether a value is a tuple of letters of the end that sends into this lane."""
    return isinstance(value, tuple) and all([is_letter(pact, name, letter) for letter in value])


def are_few_frames(pact, lanes):
    """Whether there is at most one frame to a size or a table in some letters."""
    frames = [letter for letter in lanes if letter[0] == "frame" and pact.setting(letter[1]).kind != "room"]
    return len(frames) <= 1


def agree_on_changes(local, other, out, back):
    """Whether the open changes of an end are those that are sent, owed and answered, by number."""
    sent = len([letter for letter in out if letter[0] == "set"])
    answered = len([letter for letter in back if letter[0] in ("answer", "no")])
    return len(local[1]) == sent + len(other[2]) + answered


def agree_on_rooms(local, other, out, back, room):
    """Whether the credit of an end for rooms of the other one covers what is sent, held and given back."""
    if len(room) == 0:
        return True
    # An end owns at most one room, so there is just one credit.
    coming = len([letter for letter in out if letter == ("frame", room[0], 0)])
    going = len([letter for letter in back if letter == ("done", room[0])])
    return local[4][0] >= coming + other[5][0] + going


def has_watched_form(pact, value):
    """Whether any value has the form of a watched state."""
    if not is_row(value, 4) or not is_local(pact, "left", value[0]) or not is_local(pact, "right", value[1]):
        return False
    left, right, to_right, to_left = value
    if not is_lane(pact, "left", to_right) or not is_lane(pact, "right", to_left):
        return False
    return (
        are_few_frames(pact, to_right + to_left)
        and agree_on_changes(left, right, to_right, to_left)
        and agree_on_changes(right, left, to_left, to_right)
        and agree_on_rooms(left, right, to_right, to_left, rooms(pact.right))
        and agree_on_rooms(right, left, to_left, to_right, rooms(pact.left))
    )
