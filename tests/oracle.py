"""A second player of pacts, written for tests only: it keeps a record of each change instead of local states.

Each letter in a lane bears the number of the change that it is about, so that nothing is told by counting.
"""

import copy

NAMES = ("left", "right")
OTHER = {"left": "right", "right": "left"}


class World:
    def __init__(self, pact):
        self.pact = pact
        self.changes = []
        self.lanes = {"left": [], "right": []}
        self.sent_frames = {word: 0 for word in pact.words()}
        self.given_back = {word: 0 for word in pact.words()}
        self.kept_frames = {word: 0 for word in pact.words()}
        self.done_frames = {word: 0 for word in pact.words()}

    def __deepcopy__(self, memo):
        other = World(self.pact)
        other.changes = [dict(change) for change in self.changes]
        other.lanes = {name: list(lane) for name, lane in self.lanes.items()}
        for row in ("sent_frames", "given_back", "kept_frames", "done_frames"):
            setattr(other, row, dict(getattr(self, row)))
        return other

    def copied(self):
        return copy.deepcopy(self)

    # What an end knows.

    def opened(self, name):
        return [change for change in self.changes if change["owner"] == name and not change["closed"]]

    def owed(self, name):
        return [
            change for change in self.changes
            if change["owner"] != name and change["heard"] and change["answer"] is None
        ]

    def base(self, word):
        values = [
            change["value"] for change in self.changes
            if change["word"] == word and change["closed"] and change["answer"] == "answer"
        ]
        return ([self.pact.setting(word).start] + values)[-1]

    def used(self, word):
        values = [change["value"] for change in self.changes if change["word"] == word and change["answer"] == "answer"]
        return ([self.pact.setting(word).start] + values)[-1]

    def newest(self, word):
        owner = self.pact.owner(word)
        values = [change["value"] for change in self.opened(owner) if change["word"] == word and not change["asked"]]
        return values[-1] if values else self.base(word)

    def judged_by(self, word):
        hold = self.pact.setting(word).hold
        if hold == "sent":
            return self.newest(word)
        if hold == "answered":
            return self.base(word)
        values = [change["value"] for change in self.opened(self.pact.owner(word)) if change["word"] == word]
        return max([self.base(word)] + values)

    def in_use(self, word):
        user = OTHER[self.pact.owner(word)]
        values = [change["value"] for change in self.owed(user) if change["word"] == word and not change["refused"]]
        if self.pact.end(user).use(word) == "answered" or not values:
            return self.used(word)
        return values[-1]

    def made_by(self, word):
        """The number of the change whose value the user has in use, None if it has the one that it answered last."""
        user = OTHER[self.pact.owner(word)]
        heard = [change for change in self.owed(user) if change["word"] == word and not change["refused"]]
        return self.place(heard[-1]) if heard and self.pact.end(user).use(word) == "heard" else None

    def rank(self, word, about):
        """The place, counted from 1, of a change among those open at the owner; 0 if it is none of them."""
        opened = [self.place(change) for change in self.opened(self.pact.owner(word))]
        return opened.index(about) + 1 if about in opened else 0

    def open_behind(self, word, about):
        """How many changes of a setting are open that are younger than a change, or at all if it is none."""
        numbers = [self.place(change) for change in self.opened(self.pact.owner(word)) if change["word"] == word]
        return len([at for at in numbers if about is None or at > about])

    def credit(self, word):
        return self.sent_frames[word] - self.given_back[word]

    def held(self, word):
        return self.kept_frames[word] - self.done_frames[word]

    def local(self, name):
        own, foreign = self.pact.end(name).words(), self.pact.end(OTHER[name]).words()
        rooms = {word: self.pact.setting(word).kind == "room" for word in own + foreign}
        return (
            tuple(self.base(word) for word in own),
            tuple((change["word"], change["value"], int(change["asked"])) for change in self.opened(name)),
            tuple((change["word"], change["value"], int(change["refused"])) for change in self.owed(name)),
            tuple(self.used(word) for word in foreign),
            tuple(self.credit(word) for word in foreign if rooms[word]),
            tuple(self.held(word) for word in own if rooms[word]),
        )

    def state(self):
        lanes = {name: tuple(letter for letter, _ in lane) for name, lane in self.lanes.items()}
        return (self.local("left"), self.local("right"), lanes["right"], lanes["left"])

    # What an end may do.

    def lets(self, name, deed):
        pairs = self.pact.end(name).pairs(deed)
        return pairs is None or (len(self.opened(name)), len(self.owed(name))) in pairs

    def letters(self, name):
        end, opened, owed, found = self.pact.end(name), self.opened(name), self.owed(name), []
        if self.lets(name, "set") and len(opened) < end.most:
            for word in end.words():
                for one, other in end.setting(word).changes():
                    if one == self.newest(word):
                        found.append(("set", word, other))
        if self.lets(name, "back") and opened and not opened[-1]["asked"]:
            found.append(("back",))
        if self.lets(name, "answer") and owed:
            found.append(("no",) if owed[0]["refused"] else ("answer",))
        if self.lets(name, "frame"):
            for word in self.pact.end(OTHER[name]).words():
                kind, value = self.pact.setting(word).kind, self.in_use(word)
                numbers = {"size": list(range(value + 1)), "table": [value], "room": [0]}[kind]
                if kind != "room" or self.credit(word) < value:
                    found.extend(("frame", word, number) for number in numbers)
        if self.lets(name, "done"):
            for word in end.words():
                if end.setting(word).kind == "room" and self.held(word) > 0:
                    found.append(("done", word))
        return found

    def moves(self, name):
        return [(name, letter) for letter in self.letters(name)] + [(name, ("hear",))] * bool(self.lanes[name])

    # Moves.

    def place(self, wanted):
        return [at for at, change in enumerate(self.changes) if change is wanted][0]

    def make(self, move):
        name, letter = move
        if letter == ("hear",):
            return self.hear(name, *self.lanes[name].pop(0))
        about = None
        if letter[0] == "set":
            about = len(self.changes)
            self.changes.append({
                "owner": name, "word": letter[1], "value": letter[2], "asked": False, "heard": False, "refused": False,
                "answer": None, "closed": False,
            })
        elif letter[0] == "back":
            about = self.place(self.opened(name)[-1])
            self.changes[about]["asked"] = True
        elif letter[0] in ("answer", "no"):
            about = self.place(self.owed(name)[0])
            self.changes[about]["answer"] = letter[0]
        elif letter[0] == "frame" and self.pact.setting(letter[1]).kind == "room":
            self.sent_frames[letter[1]] += 1
        elif letter[0] == "frame":
            about = self.made_by(letter[1])
        elif letter[0] == "done":
            self.done_frames[letter[1]] += 1
        self.lanes[OTHER[name]].append((letter, about))
        return None

    def hear(self, name, letter, about):
        if letter[0] == "set":
            self.changes[about]["heard"] = True
        elif letter[0] == "back":
            # It was answered already if it is owed no longer: then nothing comes of it.
            if self.changes[about]["answer"] is None:
                self.changes[about]["refused"] = True
        elif letter[0] in ("answer", "no"):
            self.changes[about]["closed"] = True
        elif letter[0] == "done":
            self.given_back[letter[1]] += 1
        else:
            return self.judge(letter[1], letter[2])
        return None

    def judge(self, word, number):
        kind, judged = self.pact.setting(word).kind, self.judged_by(word)
        if kind == "size":
            return (word, number, judged, "kept" if number <= judged else "refused")
        if kind == "table":
            return (word, number, judged, "kept" if number == judged else "garbled")
        number = self.held(word) + 1
        if number > judged:
            return (word, number, judged, "passed")
        self.kept_frames[word] += 1
        return (word, number, judged, "kept")

    def under_way(self):
        letters = [letter for lane in self.lanes.values() for letter, _ in lane]
        return len([letter for letter in letters if letter[0] == "frame" and self.pact.setting(letter[1]).kind != "room"])


def ordered_moves(world):
    return world.moves("left") + world.moves("right")


def explored(pact, most_moves=None, watched=True):
    """A dict from each state that is met to its fewest moves, and one from each verdict to its fewest moves."""
    world = World(pact)
    known, verdicts, layer, count = {world.state(): 0}, {}, [world], 0
    while layer and count != most_moves:
        count += 1
        behind = []
        for world in layer:
            for move in ordered_moves(world):
                other = world.copied()
                verdict = other.make(move)
                if watched and other.under_way() > 1:
                    continue
                if verdict is not None:
                    verdicts.setdefault(verdict, count)
                if other.state() not in known:
                    known[other.state()] = count
                    behind.append(other)
        layer = behind
    return known, verdicts


class Heard:
    """What is told of all hearings of frames to a setting: rows of (local state of the owner, place) and more."""

    def __init__(self):
        self.fewest, self.behind, self.by_local = {}, [], {}

    def add(self, local, place, behind, count):
        self.fewest.setdefault(place, count)
        self.behind.append(behind)
        self.by_local.setdefault(local, set()).add(place)

    def least(self):
        """The least M modulo which no two places of one local state are alike."""
        found = [many for many in range(1, 9)
                 if all(len({place % many for place in places}) == len(places) for places in self.by_local.values())]
        return found[0] if self.by_local else None

    def spread(self):
        return max(self.behind, default=None)


def marked(world, word):
    """What tells worlds with frames to a setting under way apart: the state, and by what each frame was made."""
    lane = world.lanes[world.pact.owner(word)]
    return world.state(), tuple(world.rank(word, about) for letter, about in lane if letter[:2] == ("frame", word))


def hearings(pact, word, most_frames=1, most_moves=None):
    """All hearings of frames to a setting, with at most so many frames to it under way and none to other ones."""
    told, known, layer, count = Heard(), set(), [World(pact)], 0
    owner = pact.owner(word)
    while layer and count != most_moves:
        count += 1
        behind = []
        for world in layer:
            for move in ordered_moves(world):
                letter, about = (world.lanes[move[0]] + [(("none",), None)])[0]
                if move == (owner, ("hear",)) and letter[:2] == ("frame", word):
                    told.add(world.local(owner), world.rank(word, about), world.open_behind(word, about), count)
                if move[1][0] == "frame" and move[1][1] != word and pact.setting(move[1][1]).kind != "room":
                    continue
                other = world.copied()
                other.make(move)
                if other.under_way() <= most_frames and marked(other, word) not in known:
                    known.add(marked(other, word))
                    behind.append(other)
        layer = behind
    return told
