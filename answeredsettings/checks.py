"""Questions about any value that several modules ask."""

LETTERS = "abcdefghijklmnopqrstuvwxyz"
DIGITS = "0123456789"


def is_integer(value):
    """Whether a value is an integer; True and False are none."""
    return isinstance(value, int) and not isinstance(value, bool)


def is_between(value, low, high):
    """Whether a value is an integer from low to high."""
    return is_integer(value) and low <= value <= high


def is_one_of(value, texts):
    """Whether a value is one of some texts."""
    # Only texts are compared: other values may not let themselves be compared.
    return isinstance(value, str) and value in texts


def is_word(value):
    """Whether a value is a text of one to eight small letters."""
    if not isinstance(value, str) or not 1 <= len(value) <= 8:
        return False
    return all([sign in LETTERS for sign in value])


def is_row(value, many):
    """Whether a value is a tuple of so many values."""
    return isinstance(value, tuple) and len(value) == many


def is_pair(value, low, high):
    """Whether a value is a pair of integers from low to high."""
    return is_row(value, 2) and is_between(value[0], low, high) and is_between(value[1], low, high)
