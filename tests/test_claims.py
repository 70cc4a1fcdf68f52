"""[1], [2], [11], [14] Claims: whether they hold, what shows them, and what is against them."""

import itertools
import unittest
from unittest import mock

import stepping
from answeredsettings import spaces
from answeredsettings.claims import against, holds, is_shown
from answeredsettings.ends import End
from answeredsettings.errors import BadArgument, BadClaim, TooMany
from answeredsettings.machine import Machine, played
from answeredsettings.pacts import NAMES, Pact
from answeredsettings.states import first_state
from answeredsettings.tables import joined, table_of
from answeredsettings.verdicts import is_sound
from graphs import each, graph_of, walked
from samples import FAR_STATES, NO_TABLES, ODD, Picky, crowded, example, one_way, room, size, small_pacts, table, two_way, weaving

FATES = {"size": "refused", "table": "garbled", "room": "passed"}


def fate(kind, number, judged):
    wrong = number != judged if kind == "table" else number > judged
    return FATES[kind] if wrong else "kept"


def verdict_forms(pact):
    """All values that have the form of a verdict."""
    for word in pact.words():
        setting = pact.setting(word)
        low = int(setting.kind == "room")
        for number, judged in itertools.product(range(low, setting.size + low), range(setting.size)):
            yield (word, number, judged, fate(setting.kind, number, judged))


def claims_about(pact, known):
    """Claims of all six sorts; some states that can be come to are given."""
    yield from [("kept", word) for word in pact.words()]
    yield from [("unjudged", verdict) for verdict in verdict_forms(pact)]
    yield from [("never", state) for state in known[::1 + len(known) // 4] + known[-1:]]
    for name in NAMES:
        yield from [(kind, name, many) for kind in ("open", "owed") for many in range(4)]
        yield from [("lane", name, many) for many in (0, 1, 2, 3, 4, 5, 7, 10 ** 40)]


def is_against(claim, state, verdict):
    """Whether a state, or the verdict that led to it, is against a claim; None for what is not asked about."""
    kind, about = claim[0], claim[1]
    if kind == "kept":
        return verdict is not None and verdict[0] == about and verdict[3] != "kept"
    if kind == "unjudged":
        return verdict == about
    if state is None:
        return False
    if kind == "never":
        return state == about
    at = NAMES.index(about)
    return {"open": len(state[at][1]), "owed": len(state[at][2]), "lane": len(state[3 - at])}[kind] > claim[2]


def fewest_against(claim, rows, depth):
    """The fewest moves to a state or a verdict against a claim, None if there is neither."""
    found = [many for state, many in depth.items() if is_against(claim, state, None)]
    if claim[0] in ("kept", "unjudged"):
        found += [depth[state] + 1 for state in rows for row in rows[state] if is_against(claim, None, row[2])]
    return min(found) if found else None


class HoldsTest(unittest.TestCase):
    def test_example(self):
        pact = example()
        self.assertIs(holds(pact, ("kept", "a")), False)
        self.assertEqual(against(pact, ("kept", "a")), weaving("left set a 2; right hear; right frame a 2; left hear"))
        self.assertIs(holds(pact, ("open", "left", 1)), True)
        self.assertIsNone(against(pact, ("open", "left", 1)))

    def test_by_hand(self):
        pact = example()
        for claim, many in (
            (("open", "left", 0), 1), (("open", "left", 1), None), (("open", "left", 3), None), (("open", "right", 0), None),
            (("owed", "right", 0), 2), (("owed", "right", 1), None), (("owed", "left", 0), None),
            (("lane", "left", 0), 1), (("lane", "left", 1), 4), (("lane", "left", 2), None), (("lane", "left", 10 ** 100), None),
            (("lane", "right", 0), 1), (("lane", "right", 1), None),
            (("unjudged", ("a", 2, 1, "refused")), 4), (("unjudged", ("a", 2, 2, "kept")), 6),
            (("unjudged", ("a", 0, 1, "kept")), 2), (("unjudged", ("a", 2, 0, "refused")), None),
            (("never", first_state(pact)), 0), (("never", played(pact, weaving("left set a 2; right hear")).state), 2),
            (("never", FAR_STATES[0]), None), (("never", FAR_STATES[3]), None), (("kept", "a"), 4),
        ):
            with self.subTest(claim=claim):
                told = against(pact, claim)
                self.assertEqual(None if told is None else len(told), many)
                self.assertIs(holds(pact, claim), many is None)
                self.assertIs(is_shown(pact, table_of(pact), claim), many is None)

    def test_sound_pacts_keep_all(self):
        for pact in small_pacts().values():
            self.assertEqual(all(holds(pact, ("kept", word)) for word in pact.words()), is_sound(pact))

    def test_kept_speaks_of_one_setting(self):
        left = End({"a": size(hold="sent"), "b": size([], "answered")}, {}, {}, 1)
        pact = Pact(left, End({}, {"a": "heard", "b": "heard"}, {}, 1))
        self.assertIs(holds(pact, ("kept", "a")), False)
        self.assertIs(holds(pact, ("kept", "b")), True)

    def test_frames_by_tables_and_rooms(self):
        self.assertEqual(len(against(one_way(table(), "heard"), ("kept", "a"))), 4)
        self.assertEqual(len(against(one_way(room([(1, 0)], "sent"), "heard"), ("kept", "a"))), 3)
        self.assertEqual(len(against(one_way(room([]), "heard"), ("unjudged", ("a", 1, 1, "kept")))), 2)
        self.assertIs(holds(one_way(room(start=2), "heard"), ("unjudged", ("a", 3, 2, "passed"))), True)

    def test_what_the_second_stepping_tells(self):
        for name, pact, rows, depth in each():
            told = table_of(pact)
            claims = list(claims_about(pact, list(rows)))
            for claim in claims[::7] if len(rows) > 1000 else claims:
                with self.subTest(name=name, claim=claim):
                    many = fewest_against(claim, rows, depth)
                    moves = against(pact, claim)
                    self.assertEqual(None if moves is None else len(moves), many)
                    if moves is not None:
                        self.assertTrue(is_against(claim, *walked(pact, moves)))
                    if len(rows) < 1000:
                        self.assertIs(holds(pact, claim), many is None)
                        self.assertIs(is_shown(pact, told, claim), many is None)
                        self.assertEqual(against(pact, claim), moves)

    def test_machines_play_what_is_against(self):
        for claim in (("kept", "a"), ("open", "left", 0), ("lane", "left", 1), ("never", table_of(example())[7])):
            machine = Machine(example())
            moves = against(example(), claim)
            verdict = [machine(move) for move in moves][-1]
            self.assertTrue(is_against(claim, machine.state, verdict))

    def test_any_number_of_frames_under_way(self):
        """[1] What a machine meets with all frames is against no claim that holds, but for lanes."""
        for name, pact in small_pacts().items():
            if len(graph_of(name)) < 600:
                layer, wanted = [first_state(pact)], []
                for claim in claims_about(pact, []):
                    if claim[0] != "lane" and holds(pact, claim):
                        wanted.append(claim)
                for _ in range(5):
                    rows = [row for state in layer for row in stepping.steps(pact, state, 9)]
                    for claim in wanted:
                        self.assertFalse(any(is_against(claim, row[1], row[2]) for row in rows), (name, claim))
                    layer = list({row[1]: True for row in rows})

    def test_wider_rules_keep_less(self):
        pact = example()
        tight = pact.with_end("right", pact.right.with_pairs("frame", [(0, 0)]))
        for claim in claims_about(pact, table_of(tight)):
            if holds(pact, claim):
                self.assertIs(holds(tight, claim), True)
        self.assertIs(holds(tight, ("kept", "a")), True)

    def test_ends_turned_about(self):
        pact = example()
        turned = Pact(pact.right, pact.left)
        for kind, name, many in (("open", "left", 0), ("owed", "right", 0), ("lane", "left", 1), ("lane", "right", 1)):
            self.assertEqual(holds(turned, (kind, pact.other(name), many)), holds(pact, (kind, name, many)))
        self.assertEqual(
            against(turned, ("kept", "a")), [(pact.other(name), letter) for name, letter in against(pact, ("kept", "a"))])


class ShownTest(unittest.TestCase):
    def test_a_claim_holds_exactly_if_some_table_shows_it(self):
        pact = example()
        least = table_of(pact)
        more = joined(pact, least, list(stepping.graph(pact, first=FAR_STATES[2])))
        for claim in claims_about(pact, least):
            rows = {state: stepping.steps(pact, state) for state in more}
            broken = any(is_against(claim, state, None) for state in more)
            broken = broken or any(is_against(claim, None, row[2]) for state in more for row in rows[state])
            self.assertIs(is_shown(pact, more, claim), not broken, claim)
            self.assertIs(is_shown(pact, least, claim), holds(pact, claim))
            if broken and holds(pact, claim):
                break
        else:
            self.fail("the greater table is to show less")

    def test_states_that_cannot_be_come_to_can_be_against_a_claim(self):
        pact = example()
        more = joined(pact, table_of(pact), list(stepping.graph(pact, first=FAR_STATES[1])))
        self.assertIn(FAR_STATES[1], more)
        self.assertIs(is_shown(pact, more, ("never", FAR_STATES[1])), False)
        self.assertIs(is_shown(pact, table_of(pact), ("never", FAR_STATES[1])), True)
        # There the maker uses 1 as the owner judges by 2.
        self.assertIs(is_shown(pact, more, ("open", "left", 1)), True)

    def test_verdicts_of_states_that_cannot_be_come_to(self):
        left, right = ((0,), (), (), (), (), ()), ((), (), (), (2,), (), ())
        pact = one_way(size([], start=1), "heard")
        far = list(stepping.graph(pact, first=(left, right, (), ())))
        more = joined(pact, table_of(pact), far)
        for claim in (("kept", "a"), ("unjudged", ("a", 2, 0, "refused"))):
            self.assertIs(holds(pact, claim), True)
            self.assertIs(is_shown(pact, more, claim), False)
        self.assertIs(is_shown(pact, more, ("unjudged", ("a", 2, 1, "refused"))), True)

    def test_tables_that_are_not_closed(self):
        pact = example()
        told = table_of(pact)
        for claim in (("open", "left", 1), ("lane", "left", 9)):
            self.assertIs(is_shown(pact, told, claim), True)
            self.assertIs(is_shown(pact, told[1:], claim), False)
            self.assertIs(is_shown(pact, tuple(told) + tuple(told[:2]), claim), True)
            for value in ODD + NO_TABLES:
                self.assertIs(is_shown(pact, value, claim), False)


NO_CLAIMS = ODD + [
    ("kept",), ("kept", "b"), ("kept", "left"), ("kept", "a", 0), ("kept", ["a"]), ("kept", None), ("kept", Picky()), ["kept", "a"],
    ("keep", "a"), ("Kept", "a"), (["kept"], "a"), (Picky(), "a"), (None, "a"), ("keptx", "a"),
    ("unjudged", "a"), ("unjudged",), ("unjudged", ("a", 2, 1, "kept")), ("unjudged", ("b", 1, 1, "kept")),
    ("unjudged", ["a", 1, 1, "kept"]), ("unjudged", ("a", True, 1, "kept")), ("unjudged", ("a", 1, True, "kept")),
    ("unjudged", ("a", 1, 1, "kept"), 0), ("unjudged", ("a", 3, 1, "refused")), ("unjudged", Picky()),
    ("never", None), ("never",), ("never", ()), ("never", Picky()), ("never", "a"), ("never", [1, 2, 3, 4]), ("never", FAR_STATES[0], 1),
    ("nevers", FAR_STATES[0]), ("", FAR_STATES[0]), ("kept", FAR_STATES[0]), ("unjudged", FAR_STATES[0]), ("open", FAR_STATES[0]),
    ("never", (FAR_STATES[0][0], FAR_STATES[0][1], (), [])), ("never", list(FAR_STATES[0])),
    ("open", "left"), ("open", "left", 4), ("open", "left", -1), ("open", "left", True), ("open", "left", 1.0), ("open", "left", "1"),
    ("open", "left", None), ("open", "middle", 1), ("open", None, 1), ("open", "a", 1), ("open", ["left"], 1), ("open", Picky(), 1),
    ("open", "left", Picky()), ("open", "left", 1, 1), ["open", "left", 1], ("opens", "left", 1), ("open", 0, 1),
    ("owed", "left", 4), ("owed", "right", -1), ("owed", "left", False), ("owed", "both", 0), ("owed", "left", [0]),
    ("lane", "left", -1), ("lane", "left", True), ("lane", "left", 1.0), ("lane", "left", None), ("lane", "left", "0"),
    ("lane", "left", Picky()), ("lane", "lefts", 0), ("lane", "left"), ("lane", ["left"], 0), ("lanes", "left", 1), ("lane", "left", 1, 2),
    ("left", "open", 1), (None, "left", 1), (Picky(), "left", 1), ("kept", "left", 1), ("", "left", 1), "kept a",
]


class CallsTest(unittest.TestCase):
    def test_values_that_are_no_claim(self):
        for value in NO_CLAIMS:
            for call in (lambda: holds(example(), value), lambda: is_shown(example(), None, value),
                         lambda: is_shown(example(), [], value), lambda: against(example(), value)):
                with self.assertRaises(BadClaim) as told:
                    call()
                self.assertIs(told.exception.value, value)

    def test_other_errors_come_ahead_of_too_many(self):
        for value in (None, ("kept", "e"), ("open", "left", 4), ["kept", "a"], ("never", first_state(example()))):
            for call in (holds, against):
                self.assertRaises(BadClaim, call, crowded(), value)

    def test_form_hangs_on_the_pact(self):
        self.assertRaises(BadClaim, holds, two_way(), ("unjudged", ("b", 0, 0, "kept")))
        self.assertRaises(BadClaim, holds, two_way(), ("never", first_state(example())))
        self.assertRaises(BadClaim, holds, example(), ("never", first_state(two_way())))
        nothing = Pact(End({}, {}, {}, 1), End({}, {}, {}, 1))
        self.assertRaises(BadClaim, holds, nothing, ("kept", "a"))
        self.assertIs(holds(nothing, ("open", "left", 0)), True)
        self.assertEqual(against(nothing, ("never", first_state(nothing))), [])

    def test_values_that_are_no_pact(self):
        for value in ODD + [example().left]:
            for call in (lambda: holds(value, ("kept", "a")), lambda: holds(value, None), lambda: against(value, None),
                         lambda: is_shown(value, None, None), lambda: is_shown(value, [], ("kept", "a"))):
                with self.assertRaises(BadArgument) as told:
                    call()
                self.assertIs(told.exception.value, value)

    def test_names_of_the_parameters(self):
        pact, claim = example(), ("open", "left", 1)
        self.assertIs(holds(claim=claim, pact=pact), True)
        self.assertIs(is_shown(claim=claim, value=table_of(pact), pact=pact), True)
        self.assertIsNone(against(claim=claim, pact=pact))

    def test_lists_belong_to_the_caller(self):
        pact = example()
        mine = table_of(pact)
        before = list(mine)
        is_shown(pact, mine, ("kept", "a"))
        self.assertEqual(mine, before)
        against(pact, ("kept", "a")).clear()
        self.assertEqual(len(against(pact, ("kept", "a"))), 4)

    def test_which_calls_search(self):
        pact = crowded()
        start = first_state(pact)
        # Also where the answer could be told without a search.
        for claim in (("kept", "a"), ("never", start), ("open", "left", 3), ("open", "left", 0), ("lane", "left", 10 ** 9),
                      ("unjudged", ("a", 1, 1, "kept"))):
            for call in (holds, against):
                with self.assertRaises(TooMany) as told:
                    call(pact, claim)
                self.assertEqual(told.exception.limit, 30000)
            self.assertIs(is_shown(pact, [start], claim), False)
            self.assertIs(is_shown(pact, None, claim), False)

    def test_watched_states_are_counted(self):
        for call in (lambda: holds(example(), ("kept", "a")), lambda: against(example(), ("lane", "left", 9))):
            with mock.patch.object(spaces, "LIMIT", 35):
                call()
            with mock.patch.object(spaces, "LIMIT", 34):
                self.assertRaises(TooMany, call)


if __name__ == "__main__":
    unittest.main()
