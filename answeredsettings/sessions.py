"""A pact that is changed step by step, taken back, and asked."""

from answeredsettings.claims import is_claim, is_shown
from answeredsettings.errors import BadClaim, NothingLeft
from answeredsettings.pacts import check_pact
from answeredsettings.verdicts import offences


class Trial:
    """A block behind which a session is as ahead of it."""

    def __init__(self, session):
        self._session = session

    def __enter__(self):
        self._now = self._session._now
        self._past = self._session._past
        return self._session

    def __exit__(self, kind, value, trace):
        self._session._now = self._now
        self._session._past = self._past


class Session:
    """A pact as it is now, the claims that are on file, and what both were ahead of each step."""

    def __init__(self, pact):
        check_pact(pact)
        # What stands is never changed but replaced, so that it can be put back as it was: (pact, file), and a
        # file is a tuple of (claim, table).
        self._now = (pact, ())
        self._past = ()

    @property
    def present(self):
        """The pact as it is now."""
        return self._now[0]

    @present.setter
    def present(self, value):
        check_pact(value)
        self.step_to(value, self._now[1])

    def step_to(self, pact, filed):
        """Go one step on, to another pact or another file."""
        self._past = self._past + (self._now,)
        self._now = (pact, filed)

    def put(self, name, end):
        """Put another end in the place of this name."""
        self.step_to(self._now[0].with_end(name, end), self._now[1])

    def rule(self, name, deed, pairs):
        """Let an end do a deed with these pairs, None for any."""
        pact, filed = self._now
        self.step_to(pact.with_end(name, pact.end(name).with_pairs(deed, pairs)), filed)

    def file(self, claim, table):
        """Put a claim on file, with a table that shows it."""
        pact, filed = self._now
        # A value that is no claim at all is found out here, too.
        if not is_shown(pact, table, claim):
            raise BadClaim(claim)
        others = [row for row in filed if row[0] != claim]
        self.step_to(pact, tuple(others + [(claim, tuple(table))]))

    def undo(self):
        """Take the last step back that is not taken back."""
        if len(self._past) == 0:
            raise NothingLeft()
        self._now = self._past[-1]
        self._past = self._past[:-1]

    def __len__(self):
        return len(self._past)

    def standing(self):
        """The list of (claim, whether its table still shows it), as they were put on file."""
        pact, filed = self._now
        return [(claim, is_claim(pact, claim) and is_shown(pact, table, claim)) for claim, table in filed]

    def offences(self):
        """The list of all verdicts that frames can have whose fate is not to be kept."""
        return offences(self._now[0])

    def attempt(self, deed):
        """What a function of the session returns; behind it the session is as ahead of it."""
        now = self._now
        past = self._past
        try:
            return deed(self)
        finally:
            self._now = now
            self._past = past

    def trying(self):
        """An object for a block that gives the session, behind which it is as ahead of it."""
        return Trial(self)
