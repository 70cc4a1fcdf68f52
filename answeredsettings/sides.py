"""An end in a pact as it plays: what it may send in a local state, and what a hearing does to it."""

from answeredsettings.fates import fate_of


def replaced(row, at, value):
    """A tuple with another value at a place."""
    return row[:at] + (value,) + row[at + 1:]


class Side:
    """One end of a pact, with what it knows of the settings of both ends."""

    def __init__(self, pact, label):
        self.label = label
        self.mine = pact.end(label)
        self.owned = self.mine.words()
        self.foreign = self.mine.used_words()
        self.settings = {word: pact.setting(word) for word in pact.words()}
        # A word stands at the same place in base or in used, whoever owns it.
        self.places = {word: at for words in (self.owned, self.foreign) for at, word in enumerate(words)}
        # The same local states come back in very many states, so each is worked out once.
        self.told_sends = {}
        self.told_hearings = {}

    def sends(self, local):
        """The list of (letter, local state behind it) of all letters it may send, in the order of moves."""
        if local not in self.told_sends:
            self.told_sends[local] = (
                self.set_sends(local)
                + self.back_sends(local)
                + self.answer_sends(local)
                + self.frame_sends(local)
                + self.done_sends(local)
            )
        return self.told_sends[local]

    def hears(self, local, letter):
        """The local state behind the hearing of a letter, and the verdict, None if it is no frame."""
        key = (local, letter)
        if key not in self.told_hearings:
            if letter[0] == "frame":
                self.told_hearings[key] = self.frame_heard(local, letter[1], letter[2])
            else:
                self.told_hearings[key] = (self.other_heard(local, letter), None)
        return self.told_hearings[key]

    def newest(self, local, word):
        """The newest value of an own setting."""
        value = local[0][self.places[word]]
        for changed, told, asked in local[1]:
            if changed == word and asked == 0:
                value = told
        return value

    def judged_by(self, local, word):
        """The value that it judges frames to an own setting by."""
        hold = self.settings[word].hold
        if hold == "sent":
            return self.newest(local, word)
        value = local[0][self.places[word]]
        if hold == "open":
            for changed, told, _ in local[1]:
                if changed == word and told > value:
                    value = told
        return value

    def in_use(self, local, word):
        """The value that it has in use of a setting of the other end."""
        value = local[3][self.places[word]]
        if self.mine.use(word) == "heard":
            for changed, told, refused in local[2]:
                if changed == word and refused == 0:
                    value = told
        return value

    def may(self, deed, local):
        """Whether its rules let it do a deed in a local state."""
        return self.mine.lets(deed, len(local[1]), len(local[2]))

    def set_sends(self, local):
        """Its changes, by word and by value."""
        base, opened, owed, used, credit, held = local
        if len(opened) >= self.mine.most or not self.may("set", local):
            return []
        rows = []
        for word in self.owned:
            newest = self.newest(local, word)
            for value in range(self.settings[word].size):
                if self.settings[word].lets(newest, value):
                    behind = (base, opened + ((word, value, 0),), owed, used, credit, held)
                    rows.append((("set", word, value), behind))
        return rows

    def back_sends(self, local):
        """The asking back of its last open change."""
        base, opened, owed, used, credit, held = local
        if len(opened) == 0 or opened[-1][2] == 1 or not self.may("back", local):
            return []
        word, value, _ = opened[-1]
        return [(("back",), (base, opened[:-1] + ((word, value, 1),), owed, used, credit, held))]

    def answer_sends(self, local):
        """Its answer to the oldest owed change."""
        base, opened, owed, used, credit, held = local
        if len(owed) == 0 or not self.may("answer", local):
            return []
        word, value, refused = owed[0]
        if refused == 1:
            return [(("no",), (base, opened, owed[1:], used, credit, held))]
        return [(("answer",), (base, opened, owed[1:], replaced(used, self.places[word], value), credit, held))]

    def frame_sends(self, local):
        """Its frames, by word and by number."""
        if not self.may("frame", local):
            return []
        rows = []
        for word in self.foreign:
            value = self.in_use(local, word)
            if self.settings[word].kind == "room":
                rows = rows + self.room_sends(local, word, value)
            elif self.settings[word].kind == "table":
                rows.append((("frame", word, value), local))
            else:
                rows = rows + [(("frame", word, number), local) for number in range(value + 1)]
        return rows

    def room_sends(self, local, word, value):
        """Its frame to the room of the other end, if there is credit left."""
        base, opened, owed, used, credit, held = local
        # An end owns at most one room, so there is just one credit, and just one number held.
        if credit[0] >= value:
            return []
        return [(("frame", word, 0), (base, opened, owed, used, (credit[0] + 1,), held))]

    def done_sends(self, local):
        """The giving back of a frame that its own room holds."""
        base, opened, owed, used, credit, held = local
        if not self.may("done", local):
            return []
        rows = []
        for word in self.owned:
            if self.settings[word].kind == "room" and held[0] > 0:
                rows.append((("done", word), (base, opened, owed, used, credit, (held[0] - 1,))))
        return rows

    def frame_heard(self, local, word, number):
        """The local state behind a frame to an own setting, and the verdict of the frame."""
        base, opened, owed, used, credit, held = local
        kind = self.settings[word].kind
        judged = self.judged_by(local, word)
        if kind == "room":
            number = held[0] + 1
        fate = fate_of(kind, number, judged)
        if kind == "room" and fate == "kept":
            local = (base, opened, owed, used, credit, (number,))
        return (local, (word, number, judged, fate))

    def other_heard(self, local, letter):
        """The local state behind a letter that is no frame."""
        base, opened, owed, used, credit, held = local
        kind = letter[0]
        if kind == "set":
            owed = owed + ((letter[1], letter[2], 0),)
        elif kind == "back" and len(owed) > 0:
            word, value, _ = owed[-1]
            owed = owed[:-1] + ((word, value, 1),)
        elif kind == "answer":
            word, value, _ = opened[0]
            base = replaced(base, self.places[word], value)
            opened = opened[1:]
        elif kind == "no":
            opened = opened[1:]
        elif kind == "done":
            credit = (credit[0] - 1,)
        return (base, opened, owed, used, credit, held)
