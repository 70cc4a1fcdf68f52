"""A console that answers rows about a pact."""

from answeredsettings.ends import DEEDS
from answeredsettings.errors import NoRow
from answeredsettings.machine import Machine
from answeredsettings.notes import are_two_digits, two_numbers
from answeredsettings.notes import read_move, read_pact, write_move, write_pact, write_weaving
from answeredsettings.pacts import NAMES
from answeredsettings.sessions import Session
from answeredsettings.values import write_value
from answeredsettings.waits import first_stuck, greatest_wait

DONE = "ok"
NOTHING = "none"


def listed(texts):
    """The answer that some texts make."""
    return "; ".join(texts) if len(texts) > 0 else NOTHING


def verdicts_told(verdicts):
    """The answer that some verdicts make."""
    return listed([write_value(verdict) for verdict in verdicts])


def is_rule_row(words):
    """Whether some words are a row that changes a rule."""
    if len(words) < 3 or words[1] not in NAMES or words[2] not in DEEDS:
        return False
    if words[0] == "any":
        return len(words) == 3
    return words[0] == "rule" and all([are_two_digits(word, ",") for word in words[3:]])


def is_name_row(words, kind):
    """Whether some words are a row of this kind about an end."""
    return len(words) == 2 and words[0] == kind and words[1] in NAMES


def change_rule(session, words):
    """Change a rule as a row tells."""
    pairs = None if words[0] == "any" else [two_numbers(word) for word in words[3:]]
    session.rule(words[1], words[2], pairs)


class Console:
    """A session and a machine of its pact, which are told what to do row by row."""

    def __init__(self, pact):
        self.session = Session(pact)
        self.machine = Machine(pact)

    def say(self, row):
        """The answer to a row."""
        if not isinstance(row, str) or "\n" in row:
            raise NoRow(row)
        if row.startswith("play "):
            return self.play_told(row[len("play "):])
        if row.startswith("pact "):
            return self.pact_told(row[len("pact "):].replace(" / ", "\n"))
        words = row.split(" ")
        if is_rule_row(words):
            change_rule(self.session, words)
            return self.begin_anew()
        if words[0] == "try" and is_rule_row(words[1:]):
            return self.trial_told(words[1:])
        return self.answer_told(row, words)

    def answer_told(self, row, words):
        """The answer to a row that has no text in it and tells of no rule."""
        if row == "undo":
            self.session.undo()
            return self.begin_anew()
        if row == "offences":
            return verdicts_told(self.session.offences())
        if row == "pact":
            return write_pact(self.session.present).replace("\n", " / ")
        if row == "verdicts":
            return verdicts_told(self.machine.verdicts())
        if row == "stuck":
            weaving = first_stuck(self.session.present)
            return NOTHING if weaving is None else write_weaving(weaving)
        if is_name_row(words, "moves"):
            return listed([write_move(move) for move in self.machine.moves(words[1])])
        if is_name_row(words, "wait"):
            many = greatest_wait(self.session.present, words[1])
            return NOTHING if many is None else str(many)
        raise NoRow(row)

    def begin_anew(self):
        """Put a new machine at the start of the pact."""
        self.machine = Machine(self.session.present)
        return DONE

    def pact_told(self, text):
        """Take another pact, which a text writes."""
        session = self.session
        session.present = read_pact(text)
        return self.begin_anew()

    def play_told(self, text):
        """What comes of a move of the machine."""
        verdict = self.machine(read_move(text))
        return DONE if verdict is None else write_value(verdict)

    def trial_told(self, words):
        """The offences behind a change of a rule, which is taken back."""
        with self.session.trying() as session:
            change_rule(session, words)
            return verdicts_told(session.offences())
