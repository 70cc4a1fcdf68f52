"""[1], [2], [9], [11] What can be come to."""

import unittest
from unittest import mock

from answeredsettings import spaces
from answeredsettings.ends import End
from answeredsettings.errors import BadArgument, BadState, TooMany
from answeredsettings.machine import Machine, played
from answeredsettings.pacts import Pact
from answeredsettings.search import can_come, fewest_moves, states, weaving_to
from answeredsettings.states import first_state
from oracle import explored
from samples import ODD, Picky, crowded, example, one_way, room, size, small_pacts, table, weaving, wide

EMPTY = ((), (), (), (), (), ())
LEFT = ((1,), (), (), (), (), ())
RIGHT = ((), (), (), (1,), (), ())


def opened(*changes):
    return ((1,), changes, (), (), (), ())


def owed(*changes):
    return ((), (), changes, (1,), (), ())


def holding(many):
    return ((2,), (), (), (), (), (many,))


def credited(many):
    return ((), (), (), (2,), (many,), ())


SET, FRAME = ("set", "a", 2), ("frame", "a", 1)

# Values that have the form of a watched state of the example, with the moves to them, None if they cannot be come to.
STATES = [
    ((LEFT, RIGHT, (), ()), 0),
    ((opened(("a", 2, 0)), RIGHT, (SET,), ()), 1),
    ((opened(("a", 2, 0)), owed(("a", 2, 0)), (), ()), 2),
    ((opened(("a", 2, 0)), owed(("a", 2, 0)), (), (("frame", "a", 2),)), 3),
    ((LEFT, RIGHT, (), (("frame", "a", 0),)), 1),
    ((LEFT, RIGHT, (), (("frame", "a", 2),)), None),
    ((opened(("a", 2, 1)), RIGHT, (SET,), ()), None),
    ((opened(("a", 2, 1)), RIGHT, (SET, ("back",)), ()), None),
    ((opened(("a", 0, 0)), RIGHT, (("set", "a", 0),), ()), None),
    ((opened(("a", 1, 0)), RIGHT, (SET,), ()), None),
    ((opened(("a", 2, 0)), owed(("a", 0, 1)), (), ()), None),
    ((opened(("a", 2, 0)), RIGHT, (), (("no",),)), None),
    ((LEFT, RIGHT, (("back",),) * 9, ()), None),
    ((LEFT, RIGHT, (), (("back",),)), None),
    ((((0,), (), (), (), (), ()), ((), (), (), (0,), (), ()), (), ()), None),
]

NO_LETTERS = [
    None, 1, "back", (), (1,), (None,), ("backs",), ("hear",), ("back", 0), ("answer", "a"), ("no", 1), ["back"], ["set", "a", 2],
    ("set",), ("set", "a"), ("set", "a", 3), ("set", "a", -1), ("set", "a", True), ("set", "a", 2.0), ("set", "a", "2"),
    ("set", "b", 2), ("set", ["a"], 2), ("set", "a", 2, 0), ("set", None, None), ("done", "a"), ("done",), ("done", "b"),
    ("frame", "b", 1), ("frame",), ("frame", "a"), Picky(), (Picky(),), ("set", Picky(), 2),
    ("set", "a", Picky()), {}, {"back": 1}, b"back",
]


def no_states():
    """Values that have not the form of a watched state of the example."""
    yield from ODD
    yield from [(LEFT, RIGHT, ()), (LEFT, RIGHT, (), (), ()), [LEFT, RIGHT, (), ()], (RIGHT, LEFT, (), ()), (1, 2, 3, 4)]
    yield from [(list(LEFT), RIGHT, (), ()), (LEFT, list(RIGHT), (), ()), (LEFT, RIGHT, [], ()), (LEFT, RIGHT, (), [])]
    yield from [(LEFT, RIGHT, {}, ()), (LEFT, RIGHT, None, ()), (LEFT, RIGHT, (), None), (LEFT, RIGHT, (), "")]
    for value in ODD:
        yield (value, RIGHT, (), ())
        yield (LEFT, value, (), ())
        for at in range(6):
            if not isinstance(value, tuple) or (value != () and value != LEFT[at]) or (value == () and at == 0):
                yield (LEFT[:at] + (value,) + LEFT[at + 1:], RIGHT, (), ())
            if not isinstance(value, tuple) or value != () or at == 3:
                yield (LEFT, RIGHT[:at] + (value,) + RIGHT[at + 1:], (), ())
    for base in ((), (3,), (-1,), (True,), (1.0,), ("1",), (None,), (1, 1), [1], ((1,),), (Picky(),)):
        yield ((base,) + LEFT[1:], RIGHT, (), ())
        yield (LEFT, RIGHT[:3] + (base,) + RIGHT[4:], (), ())
    for row in ((0,), (None,), (1, 1)):
        yield (LEFT[:4] + (row, ()), RIGHT, (), ())
        yield (LEFT[:4] + ((), row), RIGHT, (), ())
    for change in (
        ("a", 2), ("a", 2, 0, 0), ["a", 2, 0], ("b", 2, 0), ("a", 3, 0), ("a", -1, 0), ("a", 2, 2), ("a", 2, -1),
        ("a", 2, True), ("a", 2, False), ("a", True, 0), ("a", 2.0, 0), ("a", 2, 0.0), ("a", 2, None), (None, 2, 0),
        (["a"], 2, 0), (Picky(), 2, 0), ("a", Picky(), 0), ("a", 2, Picky()), None, "a20", (),
    ):
        yield (opened(change), RIGHT, (SET,), ())
        yield (opened(("a", 2, 0)), owed(change), (), ())
    yield (((1,), [("a", 2, 0)], (), (), (), ()), RIGHT, (SET,), ())
    for letter in NO_LETTERS:
        # Behind one open change, or none, so that no wrong letter is found out by its number alone.
        yield (LEFT, RIGHT, (letter,), ())
        yield (opened(("a", 2, 0)), RIGHT, (letter,), ())
        yield (opened(("a", 2, 0)), RIGHT, (SET, letter), ())
        yield (opened(("a", 2, 0)), RIGHT, (), (letter,))
    for letter in NO_LETTERS + [SET, ("frame", "a", 3), ("frame", "a", -1), ("frame", "a", True), ("frame", "a", 1.0),
                                ("frame", "a", 1, 0), ["frame", "a", 1], ("frame", ["a"], 1), ("frame", "a", Picky())]:
        yield (LEFT, RIGHT, (), (letter,))
    yield (LEFT, RIGHT, (FRAME,), ())
    yield (LEFT, RIGHT, (), (FRAME, FRAME))
    yield (LEFT, RIGHT, (), (FRAME, ("frame", "a", 0)))
    # Changes that are open are as many as those that are under way, owed and answered.
    change = ("a", 2, 0)
    yield (opened(change), RIGHT, (), ())
    yield (LEFT, RIGHT, (SET,), ())
    yield (LEFT, owed(change), (), ())
    yield (LEFT, RIGHT, (), (("answer",),))
    yield (LEFT, RIGHT, (), (("no",),))
    yield (LEFT, RIGHT, (("answer",),), ())
    yield (opened(change), owed(change), (SET,), ())
    yield (opened(change), owed(change), (), (("answer",),))
    yield (opened(change), RIGHT, (SET,), (("no",),))
    yield (opened(change), RIGHT, (), (("no",), ("answer",)))
    # No more of them than may be open.
    yield (opened(change, change), RIGHT, (SET, SET), ())
    yield (opened(change, change), owed(change, change), (), ())


def mirrored(value):
    """A pact, or a state, with the left end and the right one in each other's place."""
    if isinstance(value, Pact):
        return Pact(value.right, value.left)
    if isinstance(value, tuple) and len(value) == 4:
        return (value[1], value[0], value[3], value[2])
    return value


class FormTest(unittest.TestCase):
    def assert_no_state(self, pact, value):
        self.assert_not_taken(pact, value)
        self.assert_not_taken(mirrored(pact), mirrored(value))

    def assert_not_taken(self, pact, value):
        self.assertIs(can_come(pact, value), False)
        for call in (weaving_to, fewest_moves):
            with self.assertRaises(BadState) as told:
                call(pact, value)
            self.assertIs(told.exception.value, value)

    def test_values_with_the_form(self):
        pact = example()
        for state, many in STATES:
            self.assertEqual(fewest_moves(pact, state), many, state)
            self.assertIs(can_come(pact, state), many is not None)
            self.assertEqual(weaving_to(pact, state) is None, many is None)
            self.assertEqual(fewest_moves(mirrored(pact), mirrored(state)), many)

    def test_values_without_the_form(self):
        pact = example()
        for value in no_states():
            self.assert_no_state(pact, value)

    def test_no_settings(self):
        pact = Pact(End({}, {}, {}, 1), End({}, {}, {}, 1))
        self.assertEqual(states(pact), [(EMPTY, EMPTY, (), ())])
        self.assertEqual((weaving_to(pact, (EMPTY, EMPTY, (), ())), fewest_moves(pact, (EMPTY, EMPTY, (), ()))), ([], 0))
        self.assertIsNone(fewest_moves(pact, (EMPTY, EMPTY, (("back",),), ())))
        for value in ((EMPTY, EMPTY, (("answer",),), ()), (EMPTY, EMPTY, (("set", "a", 1),), ()), (EMPTY, LEFT, (), ()), (EMPTY,)):
            self.assert_no_state(pact, value)

    def test_more_changes_open(self):
        pact = one_way(size(), "heard", most=2)
        changes = (("a", 2, 0), ("a", 1, 0))
        for state in (
            (opened(*changes), RIGHT, (SET, ("set", "a", 1)), ()),
            (opened(*changes), ((), (), (("a", 1, 0),), (2,), (), ()), (), (("answer",),)),
            (opened(*changes), owed(*changes), (), ()),
        ):
            self.assertTrue(can_come(pact, state))
        self.assertIs(can_come(pact, (opened(*changes), owed(("a", 1, 0)), (), (("answer",),))), False)
        self.assertIsNone(weaving_to(pact, (opened(*changes), RIGHT, (SET,), (("no",),))))
        three = changes + (("a", 2, 0),)
        self.assert_no_state(pact, (opened(*three), RIGHT, (SET, SET, SET), ()))
        self.assert_no_state(pact, (opened(*changes), RIGHT, (SET,), ()))

    def test_owed_as_many_as_the_other_may_have_open(self):
        left = End({"a": size()}, {}, {}, 1)
        pact = Pact(left, End({}, {"a": "heard"}, {}, 3))
        change = ("a", 2, 0)
        self.assertTrue(can_come(pact, (opened(change), owed(change), (), ())))
        self.assert_no_state(pact, (opened(change, change), owed(change, change), (), ()))

    def test_rooms(self):
        pact = one_way(room([], start=2), "heard")
        frame, done = ("frame", "a", 0), ("done", "a")
        self.assertEqual(fewest_moves(pact, (holding(0), credited(2), (), (frame, frame))), 2)
        self.assertEqual(fewest_moves(pact, (holding(1), credited(1), (), ())), 2)
        self.assertEqual(fewest_moves(pact, (holding(0), credited(2), (done,), (frame,))), 4)
        for state in ((holding(1), credited(2), (), ()), (holding(0), credited(1), (), ()), (holding(2), credited(2), (), ())):
            self.assertEqual(can_come(pact, state), state[0] == holding(2))
            self.assertEqual(fewest_moves(pact, state), 4 if state[0] == holding(2) else None)
        for state in (
            (holding(0), credited(0), (), (frame,)), (holding(1), credited(0), (), ()), (holding(0), credited(0), (done,), ()),
            (holding(1), credited(2), (done,), (frame,)), (holding(0), credited(2), (), (frame,) * 3),
            (holding(3), credited(3), (), ()), (holding(0), credited(3), (), ()), (holding(-1), credited(0), (), ()),
            (holding(True), credited(2), (), ()), (holding(0), credited(True), (), ()), (holding(0), credited(2.0), (), ()),
            (holding(0), credited(2), (), (("frame", "a", 1),)), (holding(0), credited(2), (), (done,)),
            (holding(0), credited(2), (("done", "b"),), ()), (holding(0), credited(2), (("done", "a", 0),), ()),
            (holding(0), credited(2), (frame,), ()), (LEFT, credited(0), (), ()), (holding(0), RIGHT, (), ()),
        ):
            self.assert_no_state(pact, state)

    def test_one_frame_in_both_lanes(self):
        left = End({"a": size()}, {"b": "heard"}, {}, 1)
        pact = Pact(left, End({"b": table()}, {"a": "heard"}, {}, 1))
        local = ((1,), (), (), (1,), (), ())
        to_right, to_left = (("frame", "b", 1),), (("frame", "a", 1),)
        self.assertTrue(can_come(pact, (local, local, to_right, ())))
        self.assertTrue(can_come(pact, (local, local, (), to_left)))
        self.assertIs(can_come(pact, (local, local, (("frame", "b", 0),), ())), False)
        self.assert_no_state(pact, (local, local, to_right, to_left))
        self.assert_no_state(pact, (local, local, to_left, ()))

    def test_many_frames_to_rooms(self):
        left = End({"a": size(), "b": room(start=2)}, {}, {}, 1)
        pact = Pact(left, End({}, {"a": "heard", "b": "heard"}, {}, 1))
        state = played(pact, weaving("right frame b 0; right frame a 1; right frame b 0")).state
        self.assertEqual(fewest_moves(pact, state), 3)


class SearchTest(unittest.TestCase):
    def test_states_of_the_example(self):
        told = states(example())
        self.assertEqual(len(told), 35)
        self.assertEqual(told, sorted(set(told), key=str))
        self.assertEqual(states(pact=example()), told)

    def test_just_the_states_that_the_second_player_meets(self):
        for name, pact in small_pacts().items():
            with self.subTest(name=name):
                known, _ = explored(pact)
                told = states(pact)
                self.assertEqual(told, sorted(known, key=str))
                for state in told[::1 + len(told) // 8]:
                    self.assertEqual(fewest_moves(pact, state), known[state])

    def test_weavings_are_played_by_a_machine(self):
        for name, pact in small_pacts().items():
            with self.subTest(name=name):
                watched = [word for word in pact.words() if pact.setting(word).kind != "room"]
                told = states(pact)
                for state in told[::1 + len(told) // 8]:
                    self.assertTrue(can_come(pact, state))
                    machine = Machine(pact)
                    for one in weaving_to(pact, state):
                        machine(one)
                        frames = [letter for letter in machine.lane("left") + machine.lane("right")
                                  if letter[0] == "frame" and letter[1] in watched]
                        self.assertLessEqual(len(frames), 1)
                    self.assertEqual(machine.state, state)
                    self.assertEqual(weaving_to(pact, state), weaving_to(pact, state))

    def test_any_number_of_frames_under_way(self):
        """[1] What a machine meets with all frames is told of the states that have at most one of them left."""
        for name, pact in small_pacts().items():
            with self.subTest(name=name):
                told = {state: True for state in states(pact)}
                watched = [word for word in pact.words() if pact.setting(word).kind != "room"]
                for state in explored(pact, 5, watched=False)[0]:
                    for one in self.with_one_frame(state, watched):
                        self.assertIn(one, told)

    def with_one_frame(self, state, watched):
        """The states with none, or one, of the frames to sizes and tables left in the lanes."""
        letters = [(lane, at) for lane in (2, 3) for at, letter in enumerate(state[lane])
                   if letter[0] == "frame" and letter[1] in watched]
        for kept in [None] + letters:
            lanes = [tuple(letter for at, letter in enumerate(state[lane]) if (lane, at) == kept or (lane, at) not in letters)
                     for lane in (2, 3)]
            yield state[:2] + tuple(lanes)

    def test_equal_pacts_tell_the_same(self):
        one = one_way(size([(0, 1), (1, 2), (1, 0)]), "heard", {"set": [(0, 0), (1, 1)]}, {"frame": [(0, 1), (0, 0)]})
        other = one_way(size([(1, 2), (0, 1), (1, 0), (1, 2)]), "heard", {"set": [(1, 1), (0, 0)]}, {"frame": [(0, 0), (0, 1)]})
        self.assertEqual(one, other)
        self.assertEqual(states(one), states(other))
        for state in states(one):
            self.assertEqual(weaving_to(one, state), weaving_to(other, state))

    def test_names_of_the_parameters(self):
        pact, start = example(), first_state(example())
        self.assertIs(can_come(pact=pact, value=start), True)
        self.assertEqual(weaving_to(pact=pact, state=start), [])
        self.assertEqual(fewest_moves(pact=pact, state=start), 0)

    def test_lists_belong_to_the_caller(self):
        pact, state = example(), STATES[3][0]
        states(pact).clear()
        weaving_to(pact, state).clear()
        self.assertEqual((len(states(pact)), len(weaving_to(pact, state))), (35, 3))

    def test_values_that_are_no_pact(self):
        for value in ODD + [example().left]:
            for call in (lambda: states(value), lambda: can_come(value, None), lambda: weaving_to(value, None),
                         lambda: fewest_moves(value, None), lambda: fewest_moves(value, first_state(example()))):
                with self.assertRaises(BadArgument) as told:
                    call()
                self.assertIs(told.exception.value, value)


class TooManyTest(unittest.TestCase):
    def test_more_states_than_the_limit(self):
        pact = crowded()
        start = first_state(pact)
        for call in (lambda: states(pact), lambda: can_come(pact, start), lambda: weaving_to(pact, start),
                     lambda: fewest_moves(pact, start)):
            with self.assertRaises(TooMany) as told:
                call()
            self.assertEqual(told.exception.limit, 30000)

    def test_other_errors_come_first(self):
        for value in (None, (), [first_state(crowded())], first_state(example())):
            for call in (weaving_to, fewest_moves):
                with self.assertRaises(BadState) as told:
                    call(crowded(), value)
                self.assertIs(told.exception.value, value)

    def test_fewer_states_than_the_limit(self):
        self.assertEqual(len(states(wide())), 26626)

    def test_just_as_many_as_the_limit(self):
        with mock.patch.object(spaces, "LIMIT", 35):
            self.assertEqual(len(states(example())), 35)
        with mock.patch.object(spaces, "LIMIT", 34):
            with self.assertRaises(TooMany):
                states(example())


if __name__ == "__main__":
    unittest.main()
