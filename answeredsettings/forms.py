"""What the rows of values of a setting tell of its frames, without a search."""

from answeredsettings.ends import DEEDS
from answeredsettings.fates import fate_of
from answeredsettings.pacts import NAMES, check_pact

FATES = ("kept", "refused", "garbled", "passed")


def values_from_start(setting):
    """The ascending list of the values that can be come to from the start by changes."""
    found = [setting.start]
    at = 0
    while at < len(found):
        for value in range(setting.size):
            if setting.lets(found[at], value) and value not in found:
                found.append(value)
        at += 1
    return sorted(found, key=int)


def longer_rows(setting, rows):
    """The list of the rows with one value more than some rows have, in the same order."""
    return [row + (value,) for row in rows for value in range(setting.size) if setting.lets(row[-1], value)]


def values_made_by(use, row):
    """The values of a row by which a frame may have been made."""
    return row if use == "heard" else row[:1]


def value_judged_by(hold, row):
    """The value of a row that the owner judges by."""
    if hold == "sent":
        return row[-1]
    if hold == "answered":
        return row[0]
    return sorted(list(row), key=int)[-1]


def numbers_by(kind, made):
    """The numbers that verdicts of frames made by a value can have, if the fewest others are held."""
    if kind == "table":
        return [made]
    # A frame to a room counts itself, so none is made by the value 0.
    return list(range(1 if kind == "room" else 0, made + 1))


def rows_of(pact, word):
    """The list of all rows of values of a setting, shorter ones first, then ascending."""
    check_pact(pact)
    setting = pact.setting(word)
    layer = [(value,) for value in values_from_start(setting)]
    found = list(layer)
    for _ in range(pact.end(pact.owner(word)).most):
        layer = longer_rows(setting, layer)
        found = found + layer
    return found


def met_by_rows(pact, word):
    """The ascending list of all pairs (made, judged) that are met by rows."""
    rows = rows_of(pact, word)
    hold = pact.setting(word).hold
    use = pact.end(pact.other(pact.owner(word))).use(word)
    pairs = {(made, value_judged_by(hold, row)): True for row in rows for made in values_made_by(use, row)}
    return sorted(list(pairs), key=str)


def fates_by_rows(pact, word):
    """The list of the fates that frames by the pairs that are met by rows can have."""
    pairs = met_by_rows(pact, word)
    kind = pact.setting(word).kind
    found = {fate_of(kind, number, judged): True for made, judged in pairs for number in numbers_by(kind, made)}
    return [fate for fate in FATES if fate in found]


def room_by_rows(pact, word):
    """The greatest of the lesser values of the pairs that are met by rows."""
    return sorted([made if made < judged else judged for made, judged in met_by_rows(pact, word)], key=int)[-1]


def never_takes_back(pact, name):
    """Whether an end may never ask a change back, as its pairs for this are the empty list."""
    check_pact(pact)
    return pact.end(name).pairs("back") == []


def is_plain(pact, word):
    """Whether a setting is the only one of a pact that bars nothing but asking back, and that to its owner."""
    check_pact(pact)
    owner = pact.owner(word)
    if pact.words() != [word] or not never_takes_back(pact, owner):
        return False
    deeds = [deed for deed in DEEDS if deed != "back"]
    return all([pact.end(name).pairs(deed) is None for name in NAMES for deed in deeds])
