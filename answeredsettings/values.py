"""Nested values as texts."""

from answeredsettings.checks import DIGITS, LETTERS
from answeredsettings.errors import BadText

MOST_DIGITS = 40
DEEPEST = 20
CONSTANTS = {"None": None, "True": True, "False": False}
# The sign that ends what another one begins.
CLOSERS = {"(": ")", "[": "]"}


def write_value(value):
    """The text of a nested value."""
    if isinstance(value, tuple):
        return "(" + " ".join([write_value(one) for one in value]) + ")"
    if isinstance(value, list):
        return "[" + " ".join([write_value(one) for one in value]) + "]"
    return str(value)


def is_integer_text(text):
    """Whether a text writes an integer."""
    digits = text[1:] if text.startswith("-") else text
    if not 1 <= len(digits) <= MOST_DIGITS or not all([sign in DIGITS for sign in digits]):
        return False
    # A nought stands ahead of no other digit, and behind no minus.
    return digits[0] != "0" or text == "0"


def is_plain_text(text):
    """Whether a text writes a value that is no tuple and no list."""
    if text == "":
        return False
    return text in CONSTANTS or all([sign in LETTERS for sign in text]) or is_integer_text(text)


def plain_value(text):
    """The value that a text without brackets writes."""
    if text in CONSTANTS:
        return CONSTANTS[text]
    return int(text) if is_integer_text(text) else text


def take(levels, piece):
    """Read a piece without blanks into the tuples and lists that are open, one within another; whether it fits.

    Each level is (the sign that ends it, its values so far); the outermost one is ended by no sign.
    """
    behind = piece.lstrip("([")
    plain = behind.rstrip(")]")
    openers = piece[:len(piece) - len(behind)]
    closers = behind[len(plain):]
    for sign in openers:
        levels.append((CLOSERS[sign], []))
    if len(levels) > DEEPEST + 1:
        return False
    if is_plain_text(plain):
        levels[-1][1].append(plain_value(plain))
    elif plain != "" or openers == "" or closers == "":
        # No value at all stands in an empty tuple or list alone.
        return False
    for sign in closers:
        closer, inside = levels[-1]
        if closer != sign:
            return False
        levels.pop()
        levels[-1][1].append(tuple(inside) if sign == ")" else inside)
    return True


def read_value(text):
    """The nested value that a text writes."""
    if not isinstance(text, str):
        raise BadText(text)
    levels = [("", [])]
    for piece in text.split(" "):
        if not take(levels, piece):
            raise BadText(text)
    outermost = levels[0][1]
    if len(levels) > 1 or len(outermost) != 1:
        raise BadText(text)
    return outermost[0]
