"""The errors of the package, each with the value or the part that is wrong."""


class PactError(Exception):
    """Every error of the package."""


class BadArgument(PactError):
    """An argument is not of the kind that the call asks for."""

    def __init__(self, value):
        self.value = value


class BadSetting(PactError):
    """A part of a setting is not as it must be."""

    def __init__(self, part):
        self.part = part


class BadEnd(PactError):
    """A part of an end is not as it must be."""

    def __init__(self, part):
        self.part = part


class BadPact(PactError):
    """The ends of a pact are none, or do not fit each other."""

    def __init__(self, part):
        self.part = part


class BadName(PactError):
    """A value is no name of an end, or no word of a setting."""

    def __init__(self, value):
        self.value = value


class BadDeed(PactError):
    """A value is no deed."""

    def __init__(self, value):
        self.value = value


class BadState(PactError):
    """A value has not the form of a state."""

    def __init__(self, value):
        self.value = value


class BadMove(PactError):
    """A value is no move that can be made."""

    def __init__(self, value):
        self.value = value


class BadScript(PactError):
    """A weaving cannot be played from this place on."""

    def __init__(self, at):
        self.at = at


class BadNumber(PactError):
    """A value is no number within the limits."""

    def __init__(self, value):
        self.value = value


class BadClaim(PactError):
    """A value is no claim about the pact."""

    def __init__(self, value):
        self.value = value


class BadChange(PactError):
    """A value is no choice of a menu."""

    def __init__(self, value):
        self.value = value


class BadMenu(PactError):
    """A value is no menu."""

    def __init__(self, value):
        self.value = value


class BadText(PactError):
    """A text has not the form that is read."""

    def __init__(self, value):
        self.value = value


class BadHalf(PactError):
    """A value holds no rows of a half."""

    def __init__(self, value):
        self.value = value


class BadBytes(PactError):
    """A value is no bytes of letters, or no letter for bytes."""

    def __init__(self, value):
        self.value = value


class NoRow(PactError):
    """A value is no row that a console knows."""

    def __init__(self, row):
        self.row = row


class TooMany(PactError):
    """More states can be come to than are searched for."""

    def __init__(self, limit):
        self.limit = limit


class NothingLeft(PactError):
    """There is no step left that could be taken back."""

    def __init__(self):
        pass
