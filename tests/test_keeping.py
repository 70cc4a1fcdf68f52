"""[1], [2], [11], [25] What one end can keep."""

import unittest
from unittest import mock

import stepping
from answeredsettings import spaces
from answeredsettings.claims import against, holds
from answeredsettings.ends import End
from answeredsettings.errors import BadArgument, BadClaim, BadName, BadState, TooMany
from answeredsettings.keeping import can_keep, forcing, kept_states, safe_sends
from answeredsettings.machine import played
from answeredsettings.pacts import NAMES, Pact
from answeredsettings.search import states
from answeredsettings.states import first_state
from graphs import PACTS, each, graph_of, walked
from samples import FAR_STATES, ODD, Picky, crowded, example, move, one_way, room, size, table, two_way, weaving, wide
from test_claims import NO_CLAIMS, claims_about, is_against

HEAR = ("hear",)


def is_left_out(name, row):
    """Whether an end may leave out a step."""
    return row[0][0] == name and row[0][1] != HEAR


def without_frame(pact, state):
    return state[:2] + tuple(tuple(one for one in lane if not stepping.is_watched(pact, one)) for lane in state[2:])


def broken_from(pact, rows, name, claim):
    """The states from which an end cannot keep a claim, by rounds until nothing changes."""
    found, more = set(), True
    while more:
        more = set()
        for state in rows:
            if state not in found:
                forced = [row for row in rows[state] if not is_left_out(name, row)]
                if is_against(claim, state, None) or any(row[1] in found or is_against(claim, None, row[2]) for row in forced):
                    more.add(state)
                elif without_frame(pact, state) in found:
                    more.add(state)
        found |= more
    return found


def come_to(pact, rows, lets):
    """The fewest moves to all states that are come to by steps that are let."""
    found, layer, many = {stepping.start(pact): 0}, [stepping.start(pact)], 0
    while layer:
        many += 1
        layer = list({row[1]: 0 for state in layer for row in rows[state] if lets(state, row) and row[1] not in found})
        found.update((state, many) for state in layer)
    return found


def fewest_forced(pact, rows, name, claim):
    """The fewest moves, none of them a send of an end, that break a claim; None if there are none."""
    depth = come_to(pact, rows, lambda state, row: not is_left_out(name, row))
    found = [many for state, many in depth.items() if is_against(claim, state, None)]
    if claim[0] in ("kept", "unjudged"):
        found += [depth[state] + 1 for state in depth for row in rows[state] if is_against(claim, None, row[2])]
    return min(found, default=None)


class KeepTest(unittest.TestCase):
    def test_example(self):
        pact = example()
        for name in NAMES:
            self.assertIs(can_keep(pact, name, ("kept", "a")), True)
            self.assertIsNone(forcing(pact, name, ("kept", "a")))

    def test_sends_that_are_safe(self):
        """Behind the change to 2 the maker can send a frame 2 ahead of its answer, so the owner sends no change."""
        pact = example()
        start = first_state(pact)
        self.assertEqual(safe_sends(pact, "left", ("kept", "a"), start), [])
        self.assertEqual(len(kept_states(pact, "left", ("kept", "a"))), 3)
        # The maker leaves out the frame 2 until it has answered.
        self.assertEqual(
            safe_sends(pact, "right", ("kept", "a"), start), [move("right frame a 0"), move("right frame a 1")])
        owed = played(pact, weaving("left set a 2; right hear")).state
        self.assertEqual(
            safe_sends(pact, "right", ("kept", "a"), owed),
            [move("right answer"), move("right frame a 0"), move("right frame a 1")])
        answered = played(pact, weaving("left set a 2; right hear; right answer")).state
        self.assertEqual(
            safe_sends(pact, "right", ("kept", "a"), answered), [move(f"right frame a {number}") for number in range(3)])
        self.assertEqual(safe_sends(pact, "left", ("kept", "a"), owed), [])
        self.assertEqual(
            kept_states(pact, "right", ("kept", "a")),
            [state for state in states(pact) if state[0] != LATE or ("frame", "a", 2) not in state[3][:1]])

    def test_a_claim_that_is_broken_at_the_start(self):
        pact = example()
        start = first_state(pact)
        for name in NAMES:
            claim = ("never", start)
            self.assertIs(can_keep(pact, name, claim), False)
            self.assertEqual(forcing(pact, name, claim), [])
            self.assertEqual(kept_states(pact, name, claim), [])
            self.assertEqual(safe_sends(pact, name, claim, start), [])

    def test_a_claim_that_no_send_can_break(self):
        pact = example()
        start = first_state(pact)
        for claim in (("open", "left", 1), ("lane", "left", 9), ("never", FAR_STATES[0]), ("unjudged", ("a", 2, 0, "refused"))):
            for name in NAMES:
                self.assertIs(can_keep(pact, name, claim), True)
                self.assertEqual(kept_states(pact, name, claim), states(pact))
            self.assertEqual(safe_sends(pact, "left", claim, start), [move("left set a 2")])

    def test_what_the_other_end_alone_does(self):
        pact = example()
        self.assertIs(can_keep(pact, "right", ("open", "left", 0)), False)
        self.assertEqual(forcing(pact, "right", ("open", "left", 0)), weaving("left set a 2"))
        self.assertEqual(forcing(pact, "right", ("owed", "right", 0)), weaving("left set a 2; right hear"))
        self.assertIs(can_keep(pact, "left", ("open", "left", 0)), True)
        self.assertEqual(forcing(pact, "left", ("lane", "left", 0))[0][0], "right")
        # The owner can bar neither a frame nor its own hearing of it.
        self.assertEqual(forcing(pact, "left", ("unjudged", ("a", 1, 1, "kept"))), weaving("right frame a 1; left hear"))
        self.assertIs(can_keep(pact, "right", ("unjudged", ("a", 1, 1, "kept"))), True)

    def test_hearings_are_not_left_out(self):
        """Once the change is sent, the maker cannot but hear it, and sends by it."""
        pact = one_way(size([(1, 0)], "sent"), "heard", {"back": []})
        self.assertIs(can_keep(pact, "right", ("kept", "a")), True)
        # A frame 1 that is sent may be heard behind the change, which the owner may send at any time.
        self.assertEqual(safe_sends(pact, "right", ("kept", "a"), first_state(pact)), [move("right frame a 0")])
        self.assertEqual(safe_sends(pact, "left", ("kept", "a"), first_state(pact)), [])
        self.assertEqual(len(kept_states(pact, "right", ("kept", "a"))), len([
            state for state in states(pact) if ("frame", "a", 1) not in state[3]]))

    def test_a_frame_in_the_lane_hides_no_other_one(self):
        """With a frame 0 in the lane no frame 2 can be sent over watched states, but with it under way one could."""
        pact = example()
        claim = ("kept", "a")
        owed = played(pact, weaving("left set a 2; right hear")).state
        framed = played(pact, weaving("left set a 2; right hear; right frame a 0")).state
        self.assertIn(move("left hear"), [row[0] for row in stepping.steps(pact, framed)])
        rows = graph_of("example")
        self.assertIn(owed, broken_from(pact, rows, "left", claim))
        self.assertIn(framed, broken_from(pact, rows, "left", claim))
        start_framed = played(pact, weaving("right frame a 0")).state
        self.assertEqual(safe_sends(pact, "left", claim, start_framed), [])
        # Told by watched states alone the claim could be kept from here, as the frame is heard at once.
        lone = one_way(size([(1, 2), (2, 1)], "answered"), "heard", {"back": []}, {"frame": [(0, 1)], "answer": []})
        heard = played(lone, weaving("left set a 2; right hear; right frame a 1")).state
        self.assertEqual(safe_sends(lone, "right", claim, heard), [])
        self.assertEqual(safe_sends(lone, "left", claim, heard), [])

    def test_frames_of_the_end_itself(self):
        left = End({"a": size([(1, 0)], "sent")}, {"b": "heard"}, {"back": []}, 1)
        pact = Pact(left, End({"b": table([(0, 1)], "sent", 2, 0)}, {"a": "heard"}, {"back": []}, 1))
        for name, word in (("left", "b"), ("right", "a")):
            self.assertIs(can_keep(pact, name, ("kept", word)), True)
            self.assertIs(can_keep(pact, pact.other(name), ("kept", word)), True)
        self.assertEqual(safe_sends(pact, "left", ("kept", "b"), first_state(pact)), [move("left set a 0")])
        self.assertEqual(safe_sends(pact, "right", ("kept", "b"), first_state(pact)), [move(f"right frame a {at}") for at in (0, 1)])

    def test_rooms(self):
        pact = one_way(room([(1, 2), (2, 1)], "sent"), "heard", {"back": []})
        self.assertIs(can_keep(pact, "right", ("kept", "a")), True)
        self.assertIs(can_keep(pact, "left", ("kept", "a")), True)
        self.assertEqual(safe_sends(pact, "right", ("kept", "a"), first_state(pact)), [move("right frame a 0")])

    def test_what_the_second_stepping_tells(self):
        for label, pact, rows, depth in each():
            claims = list(claims_about(pact, list(rows)))
            for claim in claims[::60] if len(rows) > 1000 else claims[::7]:
                for name in NAMES:
                    with self.subTest(pact=label, name=name, claim=claim):
                        self.assert_told(pact, rows, name, claim)

    def assert_told(self, pact, rows, name, claim):
        broken = broken_from(pact, rows, name, claim)
        first = stepping.start(pact)
        self.assertIs(can_keep(pact, name, claim), first not in broken)
        moves = forcing(pact, name, claim)
        self.assertEqual(moves if moves is None else len(moves), fewest_forced(pact, rows, name, claim))
        self.assertEqual(moves is None, first not in broken)
        if moves is not None:
            self.assertTrue(all(one == name and letter == HEAR or one != name for one, letter in moves))
            self.assertTrue(is_against(claim, *walked(pact, moves)))
            kept = []
        else:
            kept = come_to(pact, rows, lambda state, row: not is_left_out(name, row) or row[1] not in broken)
        self.assertEqual(kept_states(pact, name, claim), sorted(kept, key=str))
        self.assertFalse(set(kept) & broken)
        for state in list(rows)[::1 + len(rows) // 5]:
            safe = [row[0] for row in rows[state] if is_left_out(name, row) and row[1] not in broken]
            self.assertEqual(safe_sends(pact, name, claim, state), [] if state in broken else safe)

    def test_all_states_that_are_never_to_come(self):
        """Those with a frame behind another letter are what frames in the lane could hide, in either lane."""
        for label in ("example", "turned about"):
            for state in graph_of(label):
                for name in NAMES:
                    self.assert_told(PACTS[label], graph_of(label), name, ("never", state))

    def test_both_kinds_of_states_are_met(self):
        """The small pacts have claims that an end can keep though they do not hold, and ones that it cannot."""
        found = set()
        for label in ("example", "size sent heard", "room sent heard", "table sent heard"):
            for claim in claims_about(PACTS[label], list(graph_of(label))):
                for name in NAMES:
                    found.add((holds(PACTS[label], claim), can_keep(PACTS[label], name, claim)))
        self.assertEqual(found, {(True, True), (False, True), (False, False)})

    def test_forcing_is_against_the_claim(self):
        pact = example()
        for claim in claims_about(pact, states(pact)):
            for name in NAMES:
                moves = forcing(pact, name, claim)
                if moves is not None:
                    self.assertGreaterEqual(len(moves), len(against(pact, claim)))
                    self.assertEqual(forcing(pact, name, claim), moves)

    def test_ends_turned_about(self):
        pact = two_way()
        turned = Pact(pact.right, pact.left)
        for claim in (("kept", "a"), ("kept", "b"), ("unjudged", ("a", 1, 1, "kept"))):
            for name in NAMES:
                self.assertEqual(can_keep(turned, pact.other(name), claim), can_keep(pact, name, claim))
                self.assertEqual(len(kept_states(turned, pact.other(name), claim)), len(kept_states(pact, name, claim)))

    def test_wider_rules_keep_less(self):
        tight = one_way(size(), "heard", {"back": [], "set": []})
        self.assertIs(can_keep(tight, "right", ("open", "left", 0)), True)
        self.assertIs(can_keep(example(), "right", ("open", "left", 0)), False)


LATE = ((1,), (("a", 2, 0),), (), (), (), ())


class CallsTest(unittest.TestCase):
    def calls(self, pact, name, claim, state=None):
        return (lambda: can_keep(pact, name, claim), lambda: safe_sends(pact, name, claim, state),
                lambda: kept_states(pact, name, claim), lambda: forcing(pact, name, claim))

    def test_values_that_are_no_pact(self):
        for value in ODD + [example().left]:
            for call in self.calls(value, None, None) + self.calls(value, "left", ("kept", "a")):
                with self.assertRaises(BadArgument) as told:
                    call()
                self.assertIs(told.exception.value, value)

    def test_values_that_are_no_name(self):
        for value in ODD + ["middle", "a"]:
            for call in self.calls(example(), value, None) + self.calls(crowded(), value, ("kept", "a")):
                with self.assertRaises(BadName) as told:
                    call()
                self.assertIs(told.exception.value, value)

    def test_values_that_are_no_claim(self):
        for value in NO_CLAIMS:
            for call in self.calls(example(), "left", value):
                with self.assertRaises(BadClaim) as told:
                    call()
                self.assertIs(told.exception.value, value)
        for call in self.calls(crowded(), "left", ("kept", "e")):
            self.assertRaises(BadClaim, call)

    def test_values_that_are_no_state(self):
        start = first_state(example())
        for value in ODD + [start[:3], list(start), (start[1], start[0], (), ()), start[:2] + ((), [])]:
            for pact in (example(), one_way(size(), "heard")):
                with self.assertRaises(BadState) as told:
                    safe_sends(pact, "left", ("kept", "a"), value)
                self.assertIs(told.exception.value, value)
        self.assertRaises(BadState, safe_sends, crowded(), "left", ("kept", "a"), start)

    def test_states_that_cannot_be_come_to(self):
        for state in FAR_STATES:
            self.assertEqual(safe_sends(example(), "left", ("open", "left", 3), state), [])
            self.assertEqual(safe_sends(example(), "right", ("open", "left", 3), state), [])

    def test_too_many(self):
        pact = crowded()
        for claim in (("kept", "a"), ("open", "left", 3), ("never", first_state(pact))):
            for call in self.calls(pact, "left", claim, first_state(pact)):
                with self.assertRaises(TooMany) as told:
                    call()
                self.assertEqual(told.exception.limit, 30000)

    def test_all_watched_states_are_counted(self):
        """Also where the end leaves out sends, so that fewer are come to."""
        pact = example()
        for claim in (("kept", "a"), ("open", "left", 0), ("never", first_state(pact))):
            for name in NAMES:
                for call in self.calls(pact, name, claim, first_state(pact)):
                    with mock.patch.object(spaces, "LIMIT", 35):
                        call()
                    with mock.patch.object(spaces, "LIMIT", 34):
                        self.assertRaises(TooMany, call)

    def test_names_of_the_parameters(self):
        pact, claim = example(), ("open", "left", 1)
        self.assertIs(can_keep(claim=claim, name="left", pact=pact), True)
        self.assertIsNone(forcing(claim=claim, name="left", pact=pact))
        self.assertEqual(len(kept_states(claim=claim, name="left", pact=pact)), 35)
        told = safe_sends(state=first_state(pact), claim=claim, name="left", pact=pact)
        self.assertEqual(told, [move("left set a 2")])

    def test_lists_belong_to_the_caller(self):
        pact, claim = example(), ("open", "left", 1)
        start = first_state(pact)
        safe_sends(pact, "left", claim, start).clear()
        kept_states(pact, "left", claim).clear()
        forcing(pact, "right", ("open", "left", 0)).clear()
        self.assertEqual(len(safe_sends(pact, "left", claim, start)), 1)
        self.assertEqual(len(kept_states(pact, "left", claim)), 35)
        self.assertEqual(len(forcing(pact, "right", ("open", "left", 0))), 1)

    def test_a_great_pact(self):
        self.assertIs(can_keep(wide(), "left", ("kept", "b")), True)
        self.assertEqual(forcing(wide(), "left", ("open", "right", 0)), weaving("right set b 2"))

    def test_any_value_inside_a_claim(self):
        self.assertRaises(BadClaim, can_keep, example(), "left", ("never", Picky()))


if __name__ == "__main__":
    unittest.main()
