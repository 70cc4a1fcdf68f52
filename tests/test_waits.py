"""[1], [2], [11], [15] Waits: stuck states, answers, lost changes."""

import unittest
from unittest import mock

import stepping
from answeredsettings import spaces
from answeredsettings.ends import End
from answeredsettings.errors import BadArgument, BadName, BadState, TooMany
from answeredsettings.machine import Machine, played
from answeredsettings.pacts import NAMES, Pact
from answeredsettings.search import can_come, states
from answeredsettings.states import first_state
from answeredsettings.waits import (
    first_lost, first_stuck, fewest_to_answer, greatest_wait, lost_states, stuck_states,
)
from graphs import PACTS, each, graph_of
from samples import FAR_STATES, ODD, crowded, example, one_way, room, size, small_pacts, table, two_way, weaving

SILENT = {"answer": [], "frame": []}


def silent():
    """A pact in which the right end never answers and sends nothing else."""
    return one_way(size(), "heard", {"back": []}, SILENT)


def state_behind(pact, text):
    return played(pact, weaving(text)).state


def is_bare(pact, state):
    return stepping.frames(pact, state) == 0


def bare_graph(name):
    """The bare states of a small pact, with their steps to bare states."""
    pact = PACTS[name]
    return {
        state: [row for row in rows if is_bare(pact, row[1])]
        for state, rows in graph_of(name).items() if is_bare(pact, state)
    }


def hears_answer(state, row, name):
    at = NAMES.index(name)
    return row[0] == (name, ("hear",)) and state[3 - at][0] in (("answer",), ("no",))


def answered_within(rows, name):
    """The fewest moves to an answer, from each bare state with something open, by rounds until nothing changes."""
    at = NAMES.index(name)
    found, more = {}, True
    while more:
        more = {}
        for state in rows:
            if state[at][1] and state not in found:
                for row in rows[state]:
                    if hears_answer(state, row, name):
                        more[state] = 1
                    elif row[1] in found:
                        more.setdefault(state, found[row[1]] + 1)
        found.update(more)
    return found


def is_stuck(pact, state):
    return any(state[at][part] for at in (0, 1) for part in (1, 2)) and not stepping.steps(pact, state, 9)


class StuckTest(unittest.TestCase):
    def test_example(self):
        self.assertEqual((stuck_states(example()), first_stuck(example())), ([], None))

    def test_an_end_that_never_answers(self):
        pact = silent()
        state = state_behind(pact, "left set a 2; right hear")
        self.assertEqual(stuck_states(pact), [state])
        self.assertEqual(first_stuck(pact), weaving("left set a 2; right hear"))

    def test_a_frame_that_can_be_sent_for_ever(self):
        pact = one_way(size(), "heard", {"back": []}, {"answer": []})
        self.assertEqual((stuck_states(pact), first_stuck(pact)), ([], None))
        self.assertEqual(len(lost_states(pact, "left")), 2)

    def test_a_room_that_is_full(self):
        """Frames to a room end with the credit, those to a size never do."""
        pact = one_way(room([(1, 2)]), "heard", {"back": [], "done": []}, {"answer": []})
        told = stuck_states(pact)
        self.assertEqual({state[1][4] for state in told}, {(2,)})
        self.assertEqual(len(first_stuck(pact)), 6)
        self.assertEqual(played(pact, first_stuck(pact)).moves(), [])

    def test_nothing_left_is_not_stuck(self):
        pact = one_way(room([], start=0), "heard")
        for one in (pact, Pact(pact.right, pact.left)):
            self.assertEqual(Machine(one).moves(), [])
            self.assertEqual((stuck_states(one), first_stuck(one)), ([], None))

    def test_several(self):
        pact = one_way(size([(1, 2), (1, 0)]), "heard", {"back": []}, SILENT)
        told = stuck_states(pact)
        self.assertEqual(told, sorted([state_behind(pact, f"left set a {value}; right hear") for value in (0, 2)], key=str))
        self.assertIn(played(pact, first_stuck(pact)).state, told)

    def test_the_order_is_that_of_the_texts(self):
        """The stuck state with two changes open has the lesser text, and is farther from the start."""
        pact = one_way(size([(1, 2), (1, 0), (0, 2)]), "heard", {"back": []}, SILENT, most=2)
        far = state_behind(pact, "left set a 0; left set a 2; right hear; right hear")
        near = state_behind(pact, "left set a 2; right hear")
        self.assertEqual(stuck_states(pact), [far, near])
        self.assertEqual(first_stuck(pact), weaving("left set a 2; right hear"))
        self.assertEqual(lost_states(pact, "left"), sorted(lost_states(pact, "left"), key=str))
        self.assertEqual(len(lost_states(pact, "left")), len(states(pact)) - 1)

    def test_changes_that_cross(self):
        """Both ends wait for each other: each answers only while nothing of its own is open."""
        rules = {"answer": [(0, 1)], "frame": [], "back": []}
        pact = Pact(End({"a": size()}, {"b": "heard"}, rules, 1), End({"b": size()}, {"a": "heard"}, rules, 1))
        state, = [one for one in stuck_states(pact) if one[0][0] == one[1][0] == one[0][3] == one[1][3] == (1,)]
        self.assertEqual(state, state_behind(pact, "left set a 2; right set b 2; left hear; right hear"))
        self.assertEqual(len(first_stuck(pact)), 4)
        self.assertEqual([greatest_wait(pact, name) for name in NAMES], [None, None])

    def test_what_the_second_stepping_tells(self):
        for name, pact, rows, depth in each():
            with self.subTest(name=name):
                stuck = [state for state in rows if is_stuck(pact, state)]
                self.assertEqual(stuck_states(pact), sorted(stuck, key=str))
                told = first_stuck(pact)
                if stuck:
                    self.assertEqual(len(told), min(depth[state] for state in stuck))
                    self.assertIn(played(pact, told).state, stuck)
                else:
                    self.assertIsNone(told)


class AnswerTest(unittest.TestCase):
    def test_example(self):
        pact = example()
        self.assertEqual((greatest_wait(pact, "left"), greatest_wait(pact, "right")), (3, 0))
        for text, many in (
            ("", 0), ("left set a 2", 3), ("left set a 2; right hear", 2), ("left set a 2; right hear; right answer", 1),
            ("left set a 2; right hear; right answer; left hear", 0),
        ):
            self.assertEqual(fewest_to_answer(pact, state_behind(pact, text), "left"), many, text)
            self.assertEqual(fewest_to_answer(pact, state_behind(pact, text), "right"), 0)
        self.assertEqual((lost_states(pact, "left"), first_lost(pact, "left")), ([], None))

    def test_no_answer_after_asking_back(self):
        pact = one_way(size(), "heard")
        state = state_behind(pact, "left set a 2; left back; right hear; right hear")
        self.assertEqual(fewest_to_answer(pact, state, "left"), 2)
        state = state_behind(pact, "left set a 2; left back; right hear; right hear; right no")
        self.assertEqual(fewest_to_answer(pact, state, "left"), 1)
        # The answer and the asking back cross: the answer is heard all the same.
        state = state_behind(pact, "left set a 2; right hear; right answer; left back")
        self.assertEqual(fewest_to_answer(pact, state, "left"), 1)
        behind = state_behind(pact, "left set a 2; right hear; right answer; left back; left hear")
        self.assertEqual((behind[0][0], fewest_to_answer(pact, behind, "left")), ((2,), 0))
        # A change that is asked back before it is heard is answered all the same.
        self.assertEqual(greatest_wait(pact, "left"), 4)

    def test_refused_changes_alone_are_answered(self):
        """The answer waits for the asking back, which the end that has a change open may send."""
        pact = one_way(size(), "heard", {}, {"answer": [(0, 1)], "frame": []})
        self.assertEqual(greatest_wait(pact, "left"), 4)
        self.assertEqual(greatest_wait(one_way(size(), "heard", {"back": []}, {"answer": [(0, 2)]}), "left"), None)

    def test_two_open(self):
        pact = one_way(size([(1, 2), (2, 1)]), "heard", {"back": []}, {"answer": [(0, 2)]}, most=2)
        # Only two owed changes let it answer: the second change is to come first.
        state = state_behind(pact, "left set a 2; right hear")
        self.assertEqual(fewest_to_answer(pact, state, "left"), 4)
        state = state_behind(pact, "left set a 2; left set a 1; right hear; right hear; right answer; left hear")
        self.assertEqual(fewest_to_answer(pact, state, "left"), 4)
        self.assertEqual(greatest_wait(pact, "left"), 5)

    def test_an_end_that_never_answers(self):
        pact = silent()
        told = [state_behind(pact, "left set a 2"), state_behind(pact, "left set a 2; right hear")]
        self.assertEqual(lost_states(pact, "left"), sorted(told, key=str))
        self.assertEqual(first_lost(pact, "left"), weaving("left set a 2"))
        self.assertEqual([fewest_to_answer(pact, state, "left") for state in told], [None, None])
        self.assertIsNone(greatest_wait(pact, "left"))
        self.assertEqual((lost_states(pact, "right"), first_lost(pact, "right")), ([], None))
        self.assertEqual(greatest_wait(pact, "right"), 0)

    def test_nothing_is_ever_open(self):
        nothing = Pact(End({}, {}, {}, 1), End({}, {}, {}, 1))
        for pact in (nothing, one_way(size([]), "heard"), one_way(size(), "heard", {"set": []})):
            for name in NAMES:
                self.assertEqual((greatest_wait(pact, name), lost_states(pact, name)), (0, []))
            self.assertEqual(fewest_to_answer(pact, first_state(pact), "left"), 0)

    def test_what_the_second_stepping_tells(self):
        for label, pact, _, depth in each():
            rows = bare_graph(label)
            for at, name in enumerate(NAMES):
                with self.subTest(pact=label, name=name):
                    waits = answered_within(rows, name)
                    lost = [state for state in rows if state[at][1] and state not in waits]
                    self.assertEqual(lost_states(pact, name), sorted(lost, key=str))
                    told = first_lost(pact, name)
                    self.assertEqual(told if told is None else len(told), min([depth[state] for state in lost], default=None))
                    if told is not None:
                        self.assertIn(played(pact, told).state, lost)
                    greatest = None if lost else max([0, *waits.values()])
                    self.assertEqual(greatest_wait(pact, name), greatest)
                    for state in list(rows)[::1 + len(rows) // 8]:
                        many = waits.get(state) if state[at][1] else 0
                        self.assertEqual(fewest_to_answer(pact, state, name), many)

    def test_ends_turned_about(self):
        for pact in (example(), silent(), one_way(room(), "heard", {}, {"answer": []})):
            turned = Pact(pact.right, pact.left)
            self.assertEqual(greatest_wait(turned, "right"), greatest_wait(pact, "left"))
            self.assertEqual(len(lost_states(turned, "right")), len(lost_states(pact, "left")))
            self.assertEqual(len(stuck_states(turned)), len(stuck_states(pact)))

    def test_rules_of_answers(self):
        """Who may answer only while nothing of its own is open, waits itself for its own answer first."""
        right = End({"b": table([(0, 1)], "sent", 2, 0)}, {"a": "heard"}, {"answer": [(0, 1)], "back": []}, 1)
        pact = Pact(End({"a": size()}, {"b": "heard"}, {"back": []}, 1), right)
        state = state_behind(pact, "right set b 1; left set a 2")
        self.assertEqual(fewest_to_answer(pact, state, "right"), 4)
        self.assertEqual(fewest_to_answer(pact, state, "left"), 6)
        self.assertEqual(greatest_wait(pact, "left"), 6)


def no_bare_states(pact):
    """Values that have not the form of a bare state of the example, a watched state with a frame among them."""
    yield from ODD
    start = first_state(pact)
    yield from [start[:3], list(start), (start[1], start[0], (), ()), start[:3] + ([],), (None,) * 4]
    yield start[:3] + ((("frame", "a", 1),),)
    yield start[:3] + ((("frame", "a", 2),),)
    yield FAR_STATES[1]


class CallsTest(unittest.TestCase):
    def test_values_that_are_no_bare_state(self):
        for pact in (example(), one_way(size(), "heard")):
            for value in no_bare_states(pact):
                for name in ("left", "right", "middle", None):
                    with self.assertRaises(BadState) as told:
                        fewest_to_answer(pact, value, name)
                    self.assertIs(told.exception.value, value)

    def test_a_watched_state_that_can_be_come_to_is_not_bare(self):
        pact = example()
        state = state_behind(pact, "right frame a 1")
        self.assertTrue(can_come(pact, state))
        self.assertRaises(BadState, fewest_to_answer, pact, state, "left")

    def test_states_that_cannot_be_come_to(self):
        for state in (FAR_STATES[0], FAR_STATES[2], FAR_STATES[4]):
            self.assertFalse(can_come(example(), state))
            # The state stands ahead of the name.
            for name in ("left", "right", "middle", None, ["left"]):
                with self.assertRaises(BadState) as told:
                    fewest_to_answer(example(), state, name)
                self.assertIs(told.exception.value, state)

    def test_values_that_are_no_name(self):
        start = first_state(example())
        for value in ODD + ["Left", "a", "leftright"]:
            for call in (lambda: fewest_to_answer(example(), start, value), lambda: lost_states(example(), value),
                         lambda: first_lost(example(), value), lambda: greatest_wait(example(), value)):
                with self.assertRaises(BadName) as told:
                    call()
                self.assertIs(told.exception.value, value)

    def test_values_that_are_no_pact(self):
        for value in ODD + [example().left]:
            for call in (lambda: stuck_states(value), lambda: first_stuck(value), lambda: fewest_to_answer(value, None, None),
                         lambda: lost_states(value, None), lambda: first_lost(value, "left"),
                         lambda: greatest_wait(value, None)):
                with self.assertRaises(BadArgument) as told:
                    call()
                self.assertIs(told.exception.value, value)

    def test_too_many(self):
        pact = crowded()
        start = first_state(pact)
        for call in (lambda: stuck_states(pact), lambda: first_stuck(pact), lambda: fewest_to_answer(pact, start, "left"),
                     lambda: lost_states(pact, "left"), lambda: first_lost(pact, "right"), lambda: greatest_wait(pact, "left")):
            with self.assertRaises(TooMany) as told:
                call()
            self.assertEqual(told.exception.limit, 30000)

    def test_which_errors_come_ahead_of_too_many(self):
        pact = crowded()
        start = first_state(pact)
        far = (((2, 1),) + start[0][1:],) + start[1:]
        for value in (None, "middle", ["left"]):
            for call in (lambda: lost_states(pact, value), lambda: first_lost(pact, value), lambda: greatest_wait(pact, value),
                         lambda: fewest_to_answer(pact, start, value), lambda: fewest_to_answer(pact, far, value)):
                with self.assertRaises(BadName) as told:
                    call()
                self.assertIs(told.exception.value, value)
            with self.assertRaises(BadState):
                fewest_to_answer(pact, start[:3], value)
        # Whether this state can be come to cannot be told.
        self.assertRaises(TooMany, fewest_to_answer, pact, far, "left")

    def test_watched_states_are_counted(self):
        pact = example()
        self.assertEqual(len(states(pact)), 35)
        for call in (lambda: stuck_states(pact), lambda: first_stuck(pact), lambda: lost_states(pact, "right"),
                     lambda: fewest_to_answer(pact, first_state(pact), "right"), lambda: first_lost(pact, "left"),
                     lambda: greatest_wait(pact, "right")):
            with mock.patch.object(spaces, "LIMIT", 35):
                call()
            with mock.patch.object(spaces, "LIMIT", 34):
                self.assertRaises(TooMany, call)

    def test_names_of_the_parameters(self):
        pact = example()
        self.assertEqual(stuck_states(pact=pact), [])
        self.assertIsNone(first_stuck(pact=pact))
        self.assertEqual(fewest_to_answer(name="left", state=first_state(pact), pact=pact), 0)
        self.assertEqual(lost_states(name="left", pact=pact), [])
        self.assertIsNone(first_lost(name="left", pact=pact))
        self.assertEqual(greatest_wait(name="left", pact=pact), 3)

    def test_lists_belong_to_the_caller(self):
        pact = silent()
        for call in (lambda: stuck_states(pact), lambda: first_stuck(pact), lambda: lost_states(pact, "left"),
                     lambda: first_lost(pact, "left")):
            told = call()
            before = list(told)
            told.clear()
            self.assertEqual(call(), before)
            self.assertTrue(before)

    def test_bare_states_of_small_pacts_are_those_told(self):
        for name, pact in small_pacts().items():
            if len(graph_of(name)) < 600:
                self.assertEqual(sorted(bare_graph(name), key=str), [one for one in states(pact) if is_bare(pact, one)])

    def test_moves_are_of_both_ends(self):
        """A change of the other end, or a frame given back, can be what lets an end answer."""
        left = End({"a": size()}, {"b": "heard"}, {"back": []}, 1)
        right = End({"b": size([(1, 2)])}, {"a": "heard"}, {"answer": [(1, 1)], "frame": []}, 1)
        pact = Pact(left, right)
        state = state_behind(pact, "left set a 2; right hear")
        # The right end sets its own setting, answers, and the left one hears both.
        self.assertEqual(fewest_to_answer(pact, state, "left"), 4)
        state = state_behind(pact, "left set a 2; right hear; right set b 2; right answer; left hear")
        self.assertEqual(fewest_to_answer(pact, state, "left"), 1)


if __name__ == "__main__":
    unittest.main()
