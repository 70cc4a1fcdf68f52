"""[1], [2], [24] Sessions: a pact that is changed, taken back and asked."""

import random
import unittest
from unittest import mock

import stepping
from answeredsettings import spaces
from answeredsettings.claims import holds
from answeredsettings.ends import DEEDS, End
from answeredsettings.errors import (
    BadArgument, BadClaim, BadDeed, BadEnd, BadName, BadPact, NothingLeft, PactError, TooMany,
)
from answeredsettings.pacts import NAMES, Pact
from answeredsettings.sessions import Session
from answeredsettings.states import first_state
from answeredsettings.tables import table_of
from answeredsettings.verdicts import offences
from samples import FAR_STATES, NO_TABLES, ODD, crowded, example, one_way, size, small_pacts, table, two_way
from test_claims import NO_CLAIMS, claims_about, is_against

PAIRS = [None, [], [(0, 0)], [(0, 0), (0, 1), (1, 0), (1, 1)]]
OPEN = ("open", "left", 1)


def told_of(session):
    """All that a session tells."""
    return (session.present, len(session), session.standing())


def shown(pact, rows, claim):
    """Whether a table is closed and nothing in it is against a claim, told by the second stepping."""
    inside = set(rows)
    if stepping.start(pact) not in inside:
        return False
    for state in inside:
        if is_against(claim, state, None):
            return False
        for _, behind, verdict in stepping.steps(pact, state):
            if behind not in inside or is_against(claim, None, verdict):
                return False
    return True


class StepsTest(unittest.TestCase):
    def test_a_new_session(self):
        pact = example()
        session = Session(pact)
        self.assertIs(session.present, pact)
        self.assertEqual((len(session), session.standing()), (0, []))
        self.assertEqual(session.offences(), [("a", 2, 1, "refused")])
        self.assertRaises(NothingLeft, session.undo)

    def test_the_present_pact_is_assigned(self):
        session = Session(example())
        other = two_way()
        session.present = other
        self.assertIs(session.present, other)
        self.assertEqual(len(session), 1)
        # The same pact again is one step as well.
        session.present = other
        self.assertEqual(len(session), 2)
        session.undo()
        session.undo()
        self.assertEqual(told_of(session), (example(), 0, []))

    def test_put(self):
        session = Session(example())
        calm = End({}, {"a": "answered"}, {}, 1)
        self.assertIsNone(session.put("right", calm))
        self.assertEqual(session.present, example().with_end("right", calm))
        self.assertEqual((session.offences(), len(session)), ([], 1))
        session.put("left", example().left.with_pairs("set", []))
        self.assertEqual(session.present.left.pairs("set"), [])
        self.assertEqual(session.present.right, calm)

    def test_rule(self):
        session = Session(example())
        self.assertIsNone(session.rule("right", "frame", [(0, 0), (1, 0)]))
        self.assertEqual(session.present.right.pairs("frame"), [(0, 0), (1, 0)])
        self.assertEqual(session.offences(), [])
        session.rule("right", "frame", None)
        self.assertEqual(session.present, example())
        self.assertEqual((len(session), session.offences()), (2, [("a", 2, 1, "refused")]))
        session.rule("left", "back", [])
        self.assertEqual(len(session), 3)

    def test_undo(self):
        session = Session(example())
        seen = [session.present]
        for deed in DEEDS:
            session.rule("right", deed, [])
            seen.append(session.present)
        while len(session) > 0:
            self.assertIs(session.present, seen.pop())
            self.assertIsNone(session.undo())
        self.assertIs(session.present, seen.pop())
        self.assertRaises(NothingLeft, session.undo)
        self.assertEqual(seen, [])
        # A step behind some that were taken back stands where they stood.
        session.rule("left", "set", [])
        self.assertEqual(len(session), 1)

    def test_steps_of_all_kinds_at_random(self):
        """A list of all that stood tells what stands behind each undo."""
        for seed in range(10):
            chance = random.Random(seed)
            session, stood = Session(example()), []
            for _ in range(40):
                before = told_of(session)
                try:
                    kind = chance.randrange(5)
                    if kind == 0:
                        session.rule(chance.choice(NAMES), chance.choice(DEEDS), chance.choice(PAIRS))
                    elif kind == 1:
                        session.put("right", End({}, {"a": chance.choice(["heard", "answered"])}, {}, 2))
                    elif kind == 2:
                        session.present = chance.choice([example(), one_way(size(hold="sent"), "heard", {"back": []})])
                    elif kind == 3:
                        session.file(chance.choice([OPEN, ("kept", "a"), ("owed", "left", 0)]), table_of(session.present))
                    else:
                        session.undo()
                        self.assertEqual(told_of(session), stood.pop())
                        continue
                except PactError:
                    self.assertEqual(told_of(session), before)
                    continue
                stood.append(before)
                self.assertEqual(len(session), len(stood))


class FileTest(unittest.TestCase):
    def test_a_claim_with_its_table(self):
        session = Session(example())
        self.assertIsNone(session.file(OPEN, table_of(example())))
        self.assertEqual(session.standing(), [(OPEN, True)])
        self.assertEqual(len(session), 1)
        session.undo()
        self.assertEqual(session.standing(), [])

    def test_in_the_order_in_which_they_were_put(self):
        session = Session(example())
        claims = [OPEN, ("owed", "left", 0), ("lane", "right", 1), ("never", FAR_STATES[0]), ("unjudged", ("a", 2, 0, "refused"))]
        for claim in claims:
            session.file(claim, table_of(example()))
        self.assertEqual(session.standing(), [(claim, True) for claim in claims])

    def test_a_claim_put_on_file_twice(self):
        session = Session(example())
        rest = ("owed", "left", 0)
        session.file(OPEN, table_of(example()))
        session.file(rest, table_of(example()))
        wide_table = tuple(table_of(example())[::-1] + table_of(example()))
        session.file(("open", "left", 1), wide_table)
        self.assertEqual(session.standing(), [(rest, True), (OPEN, True)])
        self.assertEqual(len(session), 3)
        session.undo()
        self.assertEqual(session.standing(), [(OPEN, True), (rest, True)])

    def test_the_table_that_was_put_last_stands(self):
        """A table for two pacts shows a claim for both, the least one of one pact for this alone."""
        pact = example()
        tight = pact.with_end("left", pact.left.with_pairs("set", []))
        session = Session(tight)
        session.file(OPEN, table_of(tight))
        session.present = pact
        self.assertEqual(session.standing(), [(OPEN, False)])
        session.file(OPEN, table_of(pact))
        self.assertEqual(session.standing(), [(OPEN, True)])
        session.present = tight
        self.assertEqual(session.standing(), [(OPEN, True)])

    def test_shown_no_more_and_then_again(self):
        session = Session(example())
        claim = ("kept", "a")
        session.rule("right", "frame", [(0, 0)])
        session.file(claim, table_of(session.present))
        self.assertEqual(session.standing(), [(claim, True)])
        session.rule("right", "frame", None)
        self.assertEqual(session.standing(), [(claim, False)])
        session.rule("right", "frame", [(0, 0)])
        self.assertEqual(session.standing(), [(claim, True)])
        session.rule("left", "set", [])
        # Its table is closed for a tighter pact, too.
        self.assertEqual(session.standing(), [(claim, True)])
        session.undo()
        session.undo()
        self.assertEqual(session.standing(), [(claim, False)])

    def test_a_claim_that_is_none_about_the_new_pact(self):
        session = Session(example())
        for claim in (("owed", "left", 0), ("never", FAR_STATES[0]), ("unjudged", ("a", 2, 0, "refused"))):
            session.file(claim, table_of(example()))
        session.present = two_way()
        self.assertEqual([truth for _, truth in session.standing()], [False] * 3)
        left = End({"b": size()}, {}, {}, 1)
        session.present = Pact(left, End({}, {"b": "heard"}, {}, 1))
        self.assertEqual([truth for _, truth in session.standing()], [False] * 3)
        session.undo()
        session.undo()
        self.assertEqual([truth for _, truth in session.standing()], [True] * 3)

    def test_claims_that_are_not_shown(self):
        session = Session(example())
        rows = table_of(example())
        for claim, told in (
                (("kept", "a"), rows), (("open", "left", 0), rows), (OPEN, rows[:-1]), (OPEN, []), (OPEN, ()), (OPEN, None), (OPEN, {}),
                (OPEN, rows + [None]), (("kept", "b"), rows), (("open", "left", 4), rows), (("never", rows[3]), rows), (None, None)):
            with self.assertRaises(BadClaim) as error:
                session.file(claim, told)
            self.assertIs(error.exception.value, claim)
        for claim in NO_CLAIMS:
            with self.assertRaises(BadClaim) as error:
                session.file(claim, rows)
            self.assertIs(error.exception.value, claim)
        for told in NO_TABLES:
            self.assertRaises(BadClaim, session.file, OPEN, told)
        self.assertEqual(told_of(session), (example(), 0, []))

    def test_all_states_gone_through(self):
        """What stands under each of some pacts of one form, told by the second stepping."""
        pacts = [example(), one_way(size(), "heard", {"back": []}, {"frame": [(0, 0)]}), one_way(size(), "answered", {"back": []}),
                 one_way(size(hold="sent"), "heard", {"back": []}), one_way(size([(1, 2)]), "heard", {"back": []})]
        session = Session(example())
        filed = {}
        for pact in pacts:
            session.present = pact
            rows = table_of(pact)
            for claim in list(claims_about(pact, rows))[::2]:
                truth = shown(pact, rows, claim)
                self.assertIs(truth, holds(pact, claim))
                if truth:
                    session.file(claim, rows)
                    # A claim that is put on file again goes behind the others.
                    filed.pop(claim, None)
                    filed[claim] = rows
                else:
                    self.assertRaises(BadClaim, session.file, claim, rows)
        truths = set()
        for pact in pacts:
            session.present = pact
            expected = [(claim, shown(pact, rows, claim)) for claim, rows in filed.items()]
            self.assertEqual(session.standing(), expected)
            truths |= {truth for _, truth in expected}
        self.assertEqual(truths, {True, False})
        self.assertGreater(len(filed), 15)


class TryingTest(unittest.TestCase):
    def test_an_attempt(self):
        session = Session(example())
        session.rule("left", "back", None)
        before = told_of(session)

        def deed(given):
            self.assertIs(given, session)
            given.rule("right", "frame", [(0, 0)])
            given.file(("kept", "a"), table_of(given.present))
            given.undo()
            given.undo()
            given.undo()
            given.present = two_way()
            return [len(given), given.present]

        self.assertEqual(session.attempt(deed), [1, two_way()])
        self.assertEqual(told_of(session), before)
        session.undo()
        self.assertEqual(session.present, example())

    def test_an_attempt_that_raises(self):
        session = Session(example())
        session.file(OPEN, table_of(example()))
        before = told_of(session)

        def deed(given):
            given.undo()
            given.rule("left", "set", [])
            given.rule("left", "sets", [])

        with self.assertRaises(BadDeed):
            session.attempt(deed)
        self.assertEqual(told_of(session), before)
        with self.assertRaises(KeyboardInterrupt):
            session.attempt(self.interrupted)
        self.assertEqual(told_of(session), before)
        session.undo()
        self.assertEqual(session.standing(), [])

    @staticmethod
    def interrupted(session):
        session.present = two_way()
        raise KeyboardInterrupt

    def test_what_an_attempt_returns(self):
        session = Session(example())
        self.assertIsNone(session.attempt(lambda given: None))
        self.assertEqual(session.attempt(len), 0)
        found = session.attempt(lambda given: given.offences())
        self.assertEqual(found, offences(example()))

    def test_a_block(self):
        session = Session(example())
        before = told_of(session)
        with session.trying() as given:
            self.assertIs(given, session)
            given.rule("right", "frame", [(0, 0)])
            given.file(("kept", "a"), table_of(given.present))
            self.assertEqual((len(session), session.offences(), session.standing()), (2, [], [(("kept", "a"), True)]))
        self.assertEqual(told_of(session), before)

    def test_a_block_that_raises(self):
        session = Session(example())
        before = told_of(session)
        with self.assertRaises(ZeroDivisionError):
            with session.trying() as given:
                given.present = two_way()
                raise ZeroDivisionError
        self.assertEqual(told_of(session), before)
        with self.assertRaises(NothingLeft):
            with session.trying() as given:
                given.rule("left", "set", [])
                given.undo()
                given.undo()
        self.assertEqual(told_of(session), before)

    def test_one_within_another(self):
        session = Session(example())
        with session.trying() as outer:
            outer.rule("left", "set", [])
            inside = told_of(session)
            with session.trying() as inner:
                inner.undo()
                inner.present = two_way()
                self.assertEqual(session.attempt(lambda given: [given.undo(), given.present]), [None, example()])
                self.assertEqual(session.present, two_way())
            self.assertEqual(told_of(session), inside)
            with self.assertRaises(BadPact):
                with session.trying() as inner:
                    inner.rule("right", "frame", [])
                    inner.put("right", inner.present.left)
            self.assertEqual(told_of(session), inside)
        self.assertEqual(told_of(session), (example(), 0, []))

    def test_an_attempt_within_an_attempt(self):
        session = Session(example())

        def outer(given):
            given.rule("left", "set", [])
            self.assertRaises(BadName, given.attempt, lambda inner: [inner.undo(), inner.put("middle", None)])
            return [len(given), given.present.left.pairs("set")]

        self.assertEqual(session.attempt(outer), [1, []])
        self.assertEqual(len(session), 0)

    def test_an_object_for_one_block_after_another(self):
        """What stands when a block begins is put back, not what stood when the object was made."""
        session = Session(example())
        trial = session.trying()
        session.rule("left", "set", [])
        for pact in (two_way(), example()):
            with trial as given:
                given.present = pact
                self.assertEqual(len(session), 2)
            self.assertEqual((len(session), session.present.left.pairs("set")), (1, []))
        with session.trying():
            session.undo()
        self.assertEqual(len(session), 1)

    def test_steps_behind_a_block(self):
        session = Session(example())
        session.rule("left", "set", [])
        with session.trying() as given:
            given.undo()
            given.rule("right", "answer", [])
        session.rule("right", "frame", [])
        self.assertEqual(len(session), 2)
        session.undo()
        session.undo()
        self.assertEqual(session.present, example())


class CallsTest(unittest.TestCase):
    def test_values_that_are_no_pact(self):
        session = Session(example())
        session.file(OPEN, table_of(example()))
        before = told_of(session)
        for value in ODD + [example().left]:
            with self.assertRaises(BadArgument) as told:
                Session(value)
            self.assertIs(told.exception.value, value)
            with self.assertRaises(BadArgument) as told:
                session.present = value
            self.assertIs(told.exception.value, value)
            self.assertEqual(told_of(session), before)

    def test_values_that_are_no_name(self):
        session = Session(example())
        for value in ODD + ["a"]:
            for call in (lambda: session.put(value, None), lambda: session.put(value, example().left),
                         lambda: session.rule(value, None, None), lambda: session.rule(value, "set", 1)):
                with self.assertRaises(BadName) as told:
                    call()
                self.assertIs(told.exception.value, value)
        self.assertEqual(told_of(session), (example(), 0, []))

    def test_values_that_are_no_end(self):
        session = Session(example())
        for value in ODD + [example()]:
            for name in NAMES:
                with self.assertRaises(BadPact) as told:
                    session.put(name, value)
                self.assertEqual(told.exception.part, name)
        with self.assertRaises(BadPact) as told:
            session.put("right", End({}, {"b": "heard"}, {}, 1))
        self.assertEqual(told.exception.part, "words")
        self.assertEqual(told_of(session), (example(), 0, []))

    def test_values_that_are_no_deed_and_no_pairs(self):
        session = Session(example())
        for value in ODD + ["no"]:
            for pairs in (None, [], 1):
                with self.assertRaises(BadDeed) as told:
                    session.rule("left", value, pairs)
                self.assertIs(told.exception.value, value)
        for value in [value for value in ODD if value is not None and not (isinstance(value, list) and value in ([], [(1, 2)]))] + [
                [(0, 4)], [(0, True)], [[0, 0]], ((0, 0),), [(0,)], [(0, 0), None]]:
            with self.assertRaises(BadEnd) as told:
                session.rule("left", "set", value)
            self.assertEqual(told.exception.part, "rules")
        self.assertEqual(told_of(session), (example(), 0, []))

    def test_which_search_for_states(self):
        pact = example()
        rows = table_of(pact)
        with mock.patch.object(spaces, "LIMIT", 0):
            session = Session(pact)
            session.file(OPEN, rows)
            session.rule("left", "back", None)
            session.put("left", pact.left)
            session.present = pact
            self.assertEqual(session.standing(), [(OPEN, True)])
            session.undo()
            self.assertRaises(TooMany, session.offences)
            self.assertRaises(BadClaim, session.file, ("kept", "a"), rows)
        with mock.patch.object(spaces, "LIMIT", 35):
            self.assertEqual(len(session.offences()), 1)
        with mock.patch.object(spaces, "LIMIT", 34):
            self.assertRaises(TooMany, session.offences)

    def test_too_many(self):
        session = Session(crowded())
        before = told_of(session)
        with self.assertRaises(TooMany) as told:
            session.offences()
        self.assertEqual(told.exception.limit, 30000)
        self.assertRaises(BadClaim, session.file, ("open", "left", 3), [first_state(crowded())])
        self.assertEqual(told_of(session), before)

    def test_names_of_the_parameters(self):
        session = Session(pact=example())
        session.put(end=example().left, name="left")
        session.rule(pairs=[], deed="set", name="left")
        session.undo()
        session.file(table=table_of(example()), claim=OPEN)
        self.assertEqual(session.attempt(deed=len), 2)

    def test_what_was_given_belongs_to_the_caller(self):
        session = Session(example())
        rows, pairs = table_of(example()), [(0, 0)]
        session.file(OPEN, rows)
        session.rule("left", "back", pairs)
        rows.clear()
        pairs.append((1, 1))
        session.standing().clear()
        session.offences().clear()
        self.assertEqual(session.present.left.pairs("back"), [(0, 0)])
        self.assertEqual([claim for claim, _ in session.standing()], [OPEN])
        session.undo()
        self.assertEqual(session.standing(), [(OPEN, True)])
        self.assertEqual(session.offences(), offences(example()))

    def test_offences_of_many_pacts(self):
        session = Session(example())
        for pact in small_pacts().values():
            session.present = pact
            self.assertEqual(session.offences(), offences(pact))
        self.assertEqual(len(session), len(small_pacts()))


if __name__ == "__main__":
    unittest.main()
