"""Whether two ends in one place of a pact are alike to all other ends, and what parts them."""

from answeredsettings.ends import End
from answeredsettings.errors import BadArgument, TooMany
from answeredsettings.pacts import check_name, check_pact
from answeredsettings.sides import Side
from answeredsettings.spaces import LIMIT, way_to
from answeredsettings.states import first_local


def have_same_forms(end, other):
    """Whether two ends own the same words with settings of the same sorts and sizes."""
    if end.words() != other.words():
        return False
    forms = [(end.setting(word), other.setting(word)) for word in end.words()]
    return all([one.kind == two.kind and one.size == two.size for one, two in forms])


def fits(known, value):
    """Whether any value is an end that can stand in the place of another one."""
    return isinstance(value, End) and value.used_words() == known.used_words() and have_same_forms(known, value)


def check_ends(pact, name, ends):
    """Raise BadArgument for no pact, BadName for no name, then BadArgument for the first end that does not fit."""
    check_pact(pact)
    check_name(name)
    for end in ends:
        if not fits(pact.end(name), end):
            raise BadArgument(end)


class Lone:
    """An end that talks with any other end: the steps that it can go in its local states."""

    def __init__(self, pact, name):
        other = pact.end(pact.other(name))
        self.first = first_local(pact.end(name), other)
        self.side = Side(pact, name)
        self.most_owed = other.most

    def changes_heard(self, local):
        """The letters about changes of the other end that it can hear."""
        owed = local[2]
        letters = []
        if len(owed) < self.most_owed:
            for word in self.side.foreign:
                letters = letters + [("set", word, value) for value in range(self.side.settings[word].size)]
        if len(owed) > 0 and owed[-1][2] == 0:
            letters.append(("back",))
        return letters

    def answers_heard(self, local):
        """The answers to its own changes that it can hear."""
        opened = local[1]
        if len(opened) == 0:
            return []
        return [("answer",), ("no",)] if opened[0][2] == 1 else [("answer",)]

    def frames_heard(self):
        """The frames that it can hear, which are the same in all local states."""
        letters = []
        for word in self.side.owned:
            setting = self.side.settings[word]
            many = 1 if setting.kind == "room" else setting.size
            letters = letters + [("frame", word, number) for number in range(many)]
        return letters

    def dones_heard(self, local):
        """The giving back of frames that it can hear."""
        rooms = [word for word in self.side.foreign if self.side.settings[word].kind == "room"]
        return [("done", word) for word in rooms if local[4][0] > 0]

    def steps(self, local):
        """A dict from all steps that it can go to (local state behind it, verdict or None)."""
        found = {("send", letter): (behind, None) for letter, behind in self.side.sends(local)}
        heard = self.changes_heard(local) + self.answers_heard(local) + self.frames_heard() + self.dones_heard(local)
        for letter in heard:
            found[("hear", letter)] = self.side.hears(local, letter)
        return found


def parts(one, other, step):
    """Whether only one of two dicts of steps has a step, or both have it with unlike verdicts."""
    return step not in one or step not in other or one[step][1] != other[step][1]


def shortest_parting(one, other):
    """A shortest row that parts two lone ends, None if there is none."""
    first = (one.first, other.first)
    came = {first: None}
    waiting = [first]
    at = 0
    while at < len(waiting):
        pair = waiting[at]
        ways = one.steps(pair[0])
        others = other.steps(pair[1])
        for step in list(ways) + list(others):
            if parts(ways, others, step):
                return way_to(came, pair) + [step]
            behind = (ways[step][0], others[step][0])
            if behind not in came:
                came[behind] = (pair, step)
                waiting.append(behind)
        if len(came) > LIMIT:
            raise TooMany(LIMIT)
        at += 1
    return None


def parting(pact, name, end):
    """A shortest row that parts an end from the one with a name in a pact, None if they are alike."""
    return shortest_parting(Lone(pact, name), Lone(pact.with_end(name, end), name))


def are_alike(pact, name, end):
    """Whether an end is alike to the one with a name in a pact."""
    check_ends(pact, name, [end])
    return parting(pact, name, end) is None


def first_parting(pact, name, end):
    """A shortest row of steps that parts an end from the one with a name, None if they are alike."""
    check_ends(pact, name, [end])
    return parting(pact, name, end)


def alike_ends(pact, name, ends):
    """The ascending list of the indices of those of a list of ends that are alike to the one with a name."""
    check_ends(pact, name, ends)
    return [at for at, end in enumerate(ends) if parting(pact, name, end) is None]
