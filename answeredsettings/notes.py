"""Texts of settings, ends, pacts, moves and weavings, and what such texts tell."""

from answeredsettings.checks import DIGITS, is_one_of, is_word
from answeredsettings.ends import DEEDS, End
from answeredsettings.errors import BadText
from answeredsettings.pacts import NAMES, Pact, check_pact
from answeredsettings.settings import Setting

BETWEEN_ENDS = "--"
BETWEEN_MOVES = "; "
# The kinds of letters with a word and a number, with a word alone, and with nothing behind them.
WORD_AND_NUMBER = ("set", "frame")
WORD_ALONE = ("done",)
NOTHING_MORE = ("back", "answer", "no", "hear")


def is_digit(text):
    """Whether a text is a single digit."""
    return len(text) == 1 and text in DIGITS


def are_two_digits(text, sign):
    """Whether a text is two single digits with a sign between them."""
    return len(text) == 3 and is_digit(text[0]) and text[1] == sign and is_digit(text[2])


def two_numbers(text):
    """The pair of numbers that a text of two digits with a sign between them writes."""
    return (int(text[0]), int(text[2]))


def write_setting(setting):
    """The text of a setting."""
    changes = [f" {one}>{other}" for one, other in setting.changes()]
    return f"{setting.kind} {setting.size} start {setting.start} hold {setting.hold} changes" + "".join(changes)


def write_pairs(pairs):
    """The text of the pairs of a rule, with a blank ahead of each."""
    return "".join([f" {opened},{owed}" for opened, owed in pairs])


def write_end(end):
    """The text of an end."""
    rows = [f"most {end.most}"]
    for word in end.words():
        rows.append(f"own {word} " + write_setting(end.setting(word)))
    for word in end.used_words():
        rows.append(f"use {word} {end.use(word)}")
    for deed in DEEDS:
        pairs = end.pairs(deed)
        if pairs is not None:
            rows.append(f"rule {deed}" + write_pairs(pairs))
    return "\n".join(rows)


def write_pact(pact):
    """The text of a pact."""
    check_pact(pact)
    return "\n".join([write_end(pact.left), BETWEEN_ENDS, write_end(pact.right)])


def write_move(move):
    """The text of a move."""
    name, letter = move
    return " ".join([name] + [str(part) for part in letter])


def write_weaving(weaving):
    """The text of a weaving."""
    return "; ".join([write_move(move) for move in weaving])


def has_setting_form(parts):
    """Whether the parts of a text between blanks have the form of a setting."""
    if len(parts) < 7 or parts[0] == "" or parts[5] == "":
        return False
    if (parts[2], parts[4], parts[6]) != ("start", "hold", "changes"):
        return False
    return is_digit(parts[1]) and is_digit(parts[3]) and all([are_two_digits(part, ">") for part in parts[7:]])


def read_setting(text):
    """The setting that a text writes."""
    if not isinstance(text, str):
        raise BadText(text)
    parts = text.split(" ")
    if not has_setting_form(parts):
        raise BadText(text)
    changes = [two_numbers(part) for part in parts[7:]]
    return Setting(parts[0], int(parts[1]), int(parts[3]), changes, parts[5])


def has_row_form(parts):
    """Whether the parts of a row between blanks have the form of a row of an end, whatever its setting is."""
    if parts[0] == "most":
        return len(parts) == 2 and is_digit(parts[1])
    if parts[0] == "own":
        return len(parts) > 2 and is_word(parts[1])
    if parts[0] == "use":
        return len(parts) == 3 and is_word(parts[1]) and parts[2] != ""
    if parts[0] == "rule":
        return len(parts) > 1 and parts[1] != "" and all([are_two_digits(part, ",") for part in parts[2:]])
    return False


def worth_of(parts):
    """What a row of an end tells of its word or deed."""
    if parts[0] == "most":
        return int(parts[1])
    if parts[0] == "own":
        return read_setting(" ".join(parts[2:]))
    if parts[0] == "use":
        return parts[2]
    return [two_numbers(part) for part in parts[2:]]


def read_row(told, row):
    """Put what a row of an end tells to what its kind of rows has told so far."""
    parts = row.split(" ")
    if not has_row_form(parts):
        raise BadText(row)
    # There is but one row of the number of changes, so it stands under its own name.
    about = parts[0] if parts[0] == "most" else parts[1]
    if about in told[parts[0]]:
        raise BadText(row)
    told[parts[0]][about] = worth_of(parts)


def read_end(text):
    """The end that a text writes, its rows in any order."""
    if not isinstance(text, str):
        raise BadText(text)
    told = {"most": {}, "own": {}, "use": {}, "rule": {}}
    for row in text.split("\n"):
        read_row(told, row)
    if "most" not in told["most"]:
        raise BadText(text)
    return End(told["own"], told["use"], told["rule"], told["most"]["most"])


def read_pact(text):
    """The pact that a text writes."""
    if not isinstance(text, str):
        raise BadText(text)
    rows = text.split("\n")
    if rows.count(BETWEEN_ENDS) != 1:
        raise BadText(text)
    at = rows.index(BETWEEN_ENDS)
    # All rows of the left end are read, and this end is made, ahead of those of the right one.
    left = read_end("\n".join(rows[:at]))
    return Pact(left, read_end("\n".join(rows[at + 1:])))


def has_letter_form(parts):
    """Whether some texts have the form of the parts of a letter, or of a hearing."""
    if len(parts) == 0:
        return False
    if parts[0] in WORD_AND_NUMBER:
        return len(parts) == 3 and is_word(parts[1]) and is_digit(parts[2])
    if parts[0] in WORD_ALONE:
        return len(parts) == 2 and is_word(parts[1])
    return parts[0] in NOTHING_MORE and len(parts) == 1


def read_move(text):
    """The move that a text writes."""
    if not isinstance(text, str):
        raise BadText(text)
    name, *parts = text.split(" ")
    if not is_one_of(name, NAMES) or not has_letter_form(parts):
        raise BadText(text)
    return (name, tuple([int(part) if is_digit(part) else part for part in parts]))


def read_weaving(text):
    """The weaving that a text writes."""
    if not isinstance(text, str):
        raise BadText(text)
    if text == "":
        return []
    return [read_move(part) for part in text.split(BETWEEN_MOVES)]
