"""An end: the settings that it owns, those of the other end that it uses, and its rules."""

from answeredsettings.checks import is_between, is_one_of, is_pair, is_word
from answeredsettings.errors import BadDeed, BadEnd, BadName
from answeredsettings.settings import Setting

DEEDS = ("set", "back", "answer", "frame", "done")
USES = ("heard", "answered")
GREATEST = 3


def are_settings(value):
    """Whether a value is a dict from at most two words to settings, at most one of them a room."""
    if not isinstance(value, dict) or len(value) > 2:
        return False
    for word, setting in value.items():
        if not is_word(word) or not isinstance(setting, Setting):
            return False
    return len([word for word in value if value[word].kind == "room"]) <= 1


def are_uses(value, settings):
    """Whether a value is a dict from at most two words, none of them owned, to uses."""
    if not isinstance(value, dict) or len(value) > 2:
        return False
    return all([is_word(word) and word not in settings and is_one_of(use, USES) for word, use in value.items()])


def are_pairs(value):
    """Whether a value is a list of pairs of numbers of changes."""
    return isinstance(value, list) and all([is_pair(pair, 0, GREATEST) for pair in value])


def are_rules(value):
    """Whether a value is a dict from deeds to lists of pairs."""
    if not isinstance(value, dict):
        return False
    return all([is_one_of(deed, DEEDS) and are_pairs(pairs) for deed, pairs in value.items()])


def wrong_part(settings, uses, rules, most):
    """The first part that is not as an end asks for, None if all are."""
    if not are_settings(settings):
        return "settings"
    if not are_uses(uses, settings):
        return "uses"
    if not are_rules(rules):
        return "rules"
    if not is_between(most, 1, GREATEST):
        return "most"
    return None


def check_deed(deed):
    """Raise BadDeed for any value that is no deed."""
    if not is_one_of(deed, DEEDS):
        raise BadDeed(deed)


class End:
    """One of two ends, with its own settings, its uses of the other one's, and its rules."""

    def __init__(self, settings, uses, rules, most):
        part = wrong_part(settings, uses, rules, most)
        if part is not None:
            raise BadEnd(part)
        self._settings = {word: settings[word] for word in sorted(list(settings), key=str)}
        self._uses = {word: uses[word] for word in sorted(list(uses), key=str)}
        self._rules = {deed: {pair: True for pair in rules[deed]} for deed in rules}
        self._most = most

    @property
    def most(self):
        """How many of its changes may be open."""
        return self._most

    def words(self):
        """The words of its own settings, ascending."""
        return list(self._settings)

    def used_words(self):
        """The words of the settings of the other end, ascending."""
        return list(self._uses)

    def setting(self, word):
        """Its own setting with this word."""
        if not is_one_of(word, self._settings):
            raise BadName(word)
        return self._settings[word]

    def use(self, word):
        """From when on it uses a change of this setting of the other end."""
        if not is_one_of(word, self._uses):
            raise BadName(word)
        return self._uses[word]

    def pairs(self, deed):
        """The list of the pairs with which a deed may be done, ascending; None if with any."""
        check_deed(deed)
        if deed not in self._rules:
            return None
        return sorted(list(self._rules[deed]), key=str)

    def lets(self, deed, opened, owed):
        """Whether a deed may be done with so many changes open and owed, any values."""
        check_deed(deed)
        if not is_between(opened, 0, GREATEST) or not is_between(owed, 0, GREATEST):
            return False
        return deed not in self._rules or (opened, owed) in self._rules[deed]

    def with_pairs(self, deed, pairs):
        """The end with these pairs for a deed, None for any."""
        check_deed(deed)
        rules = {known: self.pairs(known) for known in self._rules if known != deed}
        if pairs is not None:
            rules[deed] = pairs
        return End(self._settings, self._uses, rules, self._most)

    def __eq__(self, other):
        return (
            isinstance(other, End)
            and self._settings == other._settings
            and self._uses == other._uses
            and self._rules == other._rules
            and self._most == other._most
        )
