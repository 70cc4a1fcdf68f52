"""A second stepping of states, written for tests only: it tries all letters, and changes records in place.

Unlike the player in oracle.py it starts from any state, also from one that cannot be come to.
"""

NAMES = ("left", "right")
PARTS = ("base", "opened", "owed", "used", "credit", "held")
ANSWERS = (("answer",), ("no",))


def other(name):
    return NAMES[1 - NAMES.index(name)]


class Record:
    """A local state in which each number stands under its word."""

    def __init__(self, pact, name, local):
        self.pact, self.name = pact, name
        self.own, self.foreign = pact.end(name).words(), pact.end(other(name)).words()
        rooms = {word for word in pact.words() if pact.setting(word).kind == "room"}
        self.own_rooms = [word for word in self.own if word in rooms]
        self.foreign_rooms = [word for word in self.foreign if word in rooms]
        base, opened, owed, used, credit, held = local
        self.base = dict(zip(self.own, base))
        self.opened = [list(change) for change in opened]
        self.owed = [list(change) for change in owed]
        self.used = dict(zip(self.foreign, used))
        self.credit = dict(zip(self.foreign_rooms, credit))
        self.held = dict(zip(self.own_rooms, held))

    def local(self):
        return (
            tuple(self.base[word] for word in self.own), tuple(map(tuple, self.opened)), tuple(map(tuple, self.owed)),
            tuple(self.used[word] for word in self.foreign), tuple(self.credit[word] for word in self.foreign_rooms),
            tuple(self.held[word] for word in self.own_rooms),
        )

    def newest(self, word):
        return ([self.base[word]] + [value for one, value, asked in self.opened if one == word and not asked])[-1]

    def judged(self, word):
        return {
            "sent": self.newest(word),
            "answered": self.base[word],
            "open": max([self.base[word]] + [value for one, value, _ in self.opened if one == word]),
        }[self.pact.setting(word).hold]

    def in_use(self, word):
        heard = [value for one, value, refused in self.owed if one == word and not refused]
        return heard[-1] if heard and self.pact.end(self.name).use(word) == "heard" else self.used[word]

    def may_send(self, letter):
        deed = "answer" if letter == ("no",) else letter[0]
        end = self.pact.end(self.name)
        if not end.lets(deed, len(self.opened), len(self.owed)):
            return False
        if letter[0] == "set":
            return len(self.opened) < end.most and self.pact.setting(letter[1]).lets(self.newest(letter[1]), letter[2])
        if letter == ("back",):
            return bool(self.opened) and not self.opened[-1][2]
        if letter in ANSWERS:
            return bool(self.owed) and letter == ANSWERS[self.owed[0][2]]
        if letter[0] == "done":
            return self.held[letter[1]] > 0
        value = self.in_use(letter[1])
        kind = self.pact.setting(letter[1]).kind
        if kind == "room":
            return self.credit[letter[1]] < value
        return letter[2] == value if kind == "table" else letter[2] <= value

    def send(self, letter):
        if letter[0] == "set":
            self.opened.append([letter[1], letter[2], 0])
        elif letter == ("back",):
            self.opened[-1][2] = 1
        elif letter in ANSWERS:
            word, value, _ = self.owed.pop(0)
            if letter == ("answer",):
                self.used[word] = value
        elif letter[0] == "done":
            self.held[letter[1]] -= 1
        elif letter[1] in self.foreign_rooms:
            self.credit[letter[1]] += 1

    def hear(self, letter):
        if letter[0] == "set":
            self.owed.append([letter[1], letter[2], 0])
        elif letter == ("back",):
            if self.owed:
                self.owed[-1][2] = 1
        elif letter in ANSWERS:
            word, value, _ = self.opened.pop(0)
            if letter == ("answer",):
                self.base[word] = value
        elif letter[0] == "done":
            self.credit[letter[1]] -= 1
        else:
            return self.judge(letter[1], letter[2])
        return None

    def judge(self, word, number):
        kind, judged = self.pact.setting(word).kind, self.judged(word)
        if kind == "room":
            number = self.held[word] + 1
        wrong = number != judged if kind == "table" else number > judged
        if kind == "room" and not wrong:
            self.held[word] = number
        return (word, number, judged, {"size": "refused", "table": "garbled", "room": "passed"}[kind] if wrong else "kept")

    def all_letters(self):
        """All letters that an end with these words could ever send, in the order of moves."""
        sizes = {word: range(self.pact.setting(word).size) for word in self.own + self.foreign}
        found = [("set", word, value) for word in self.own for value in sizes[word]] + [("back",), *ANSWERS]
        for word in self.foreign:
            found += [("frame", word, number) for number in ([0] if word in self.foreign_rooms else sizes[word])]
        return found + [("done", word) for word in self.own_rooms]


def sends(pact, name, local):
    """The list of (letter, local state behind it)."""
    found = []
    for letter in Record(pact, name, local).all_letters():
        record = Record(pact, name, local)
        if record.may_send(letter):
            record.send(letter)
            found.append((letter, record.local()))
    return found


def heard(pact, name, local, letter):
    """The local state behind a hearing, and the verdict."""
    record = Record(pact, name, local)
    verdict = record.hear(letter)
    return record.local(), verdict


def is_watched(pact, letter):
    return letter[0] == "frame" and pact.setting(letter[1]).kind != "room"


def frames(pact, state):
    """How many frames to sizes and tables are under way."""
    return sum(is_watched(pact, letter) for letter in state[2] + state[3])


def steps(pact, state, most=1):
    """The list of (move, state behind, verdict), with at most so many frames to sizes and tables under way."""
    found = []
    for at, name in enumerate(NAMES):
        lanes = {"right": state[2], "left": state[3]}
        for letter, local in sends(pact, name, state[at]):
            behind = dict(lanes)
            behind[other(name)] = lanes[other(name)] + (letter,)
            found.append(((name, letter), at, local, behind, None))
        if lanes[name]:
            local, verdict = heard(pact, name, state[at], lanes[name][0])
            found.append(((name, ("hear",)), at, local, dict(lanes, **{name: lanes[name][1:]}), verdict))
    rows = []
    for move, at, local, lanes, verdict in found:
        ends = (local, state[1]) if at == 0 else (state[0], local)
        behind = ends + (lanes["right"], lanes["left"])
        if frames(pact, behind) <= most:
            rows.append((move, behind, verdict))
    return rows


def start(pact):
    """The state at the start, told from the settings alone."""
    found = []
    for name in NAMES:
        own, foreign = pact.end(name).words(), pact.end(other(name)).words()
        rooms = [(0,) * sum(pact.setting(word).kind == "room" for word in words) for words in (foreign, own)]
        values = [tuple(pact.setting(word).start for word in words) for words in (own, foreign)]
        found.append((values[0], (), (), values[1], rooms[0], rooms[1]))
    return (found[0], found[1], (), ())


def graph(pact, most=1, first=None):
    """A dict from all states that can be come to to their steps, the nearest first."""
    first = start(pact) if first is None else first
    rows, layer = {}, [first]
    while layer:
        behind = {}
        for state in layer:
            rows[state] = steps(pact, state, most)
        for state in layer:
            behind.update((row[1], True) for row in rows[state] if row[1] not in rows)
        layer = list(behind)
    return rows


def depths(rows, first):
    """The fewest moves from a first state to all states of a graph."""
    found, layer = {first: 0}, [first]
    while layer:
        layer = list(dict.fromkeys(row[1] for state in layer for row in rows[state] if row[1] not in found))
        many = max(found.values()) + 1
        found.update((state, many) for state in layer)
    return found
