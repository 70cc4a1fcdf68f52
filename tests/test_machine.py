"""[1], [2], [6] to [10] The machine."""

import unittest

from answeredsettings.ends import End
from answeredsettings.errors import BadArgument, BadMove, BadName, BadScript
from answeredsettings.machine import Machine, played, states_of
from answeredsettings.pacts import Pact
from answeredsettings.states import first_state
from oracle import World, ordered_moves
from samples import ODD, Picky, crowded, example, move, one_way, room, size, small_pacts, table, two_at_one, weaving

NO_MOVES = ODD + [
    ("left",), ("left", "hear"), ("left", ()), ("left", ("hear", None)), ("left", ("hear",), None), ("left", ["hear"]),
    ["left", ("hear",)], ("Left", ("hear",)), (True, ("hear",)), (None, ("hear",)), ("left", None), ("left", 1),
    ("left", ("set",)), ("left", ("set", "a")), ("left", ("set", "a", True)), ("left", ("set", "a", 2.0)),
    ("left", ("set", "a", "2")), ("left", ("set", "b", 2)), ("left", ("set", ["a"], 2)), ("left", ("set", "a", [2])),
    ("left", ("set", "a", 2, 0)), ("left", ["set", "a", 2]), (["left"], ("set", "a", 2)), ("left", ("set", Picky(), 2)),
    ("left", ("set", "a", Picky())), (Picky(), ("hear",)), ("left", Picky()), (Picky(), Picky()), ("left", (Picky(),)),
    ("left", ("hear", Picky())), {"left": ("hear",)}, "left set a 2",
]


def verdict_of(pact, text):
    """The verdict of the last move of a weaving."""
    machine = Machine(pact)
    return [machine(one) for one in weaving(text)][-1]


def letters(pact, text, name):
    """The texts of the letters that an end may send behind a weaving."""
    told = [letter for _, letter in played(pact, weaving(text)).moves(name) if letter != ("hear",)]
    return [" ".join(str(part) for part in letter) for letter in told]


class HoldTest(unittest.TestCase):
    """[6], [8] By which value frames are judged."""

    def judged(self, kind, text):
        changes = [(0, 1), (1, 0), (1, 2), (2, 1), (2, 0)]
        found = []
        for hold in ("sent", "answered", "open"):
            if (kind, hold) != (table, "open"):
                found.append(verdict_of(one_way(kind(changes, hold), "heard", most=2), text)[2])
        return found

    def test_at_the_start(self):
        self.assertEqual(self.judged(size, "right frame a 1; left hear"), [1, 1, 1])

    def test_a_greater_value_is_open(self):
        self.assertEqual(self.judged(size, "right frame a 1; left set a 2; left hear"), [2, 1, 2])
        self.assertEqual(self.judged(table, "right frame a 1; left set a 2; left hear"), [2, 1])

    def test_a_lesser_value_is_open(self):
        self.assertEqual(self.judged(size, "right frame a 1; left set a 0; left hear"), [0, 1, 1])
        self.assertEqual(self.judged(table, "right frame a 1; left set a 0; left hear"), [0, 1])

    def test_two_values_are_open(self):
        self.assertEqual(self.judged(size, "right frame a 1; left set a 2; left set a 0; left hear"), [0, 1, 2])
        self.assertEqual(self.judged(size, "right frame a 1; left set a 0; left set a 1; left hear"), [1, 1, 1])

    def test_a_change_is_asked_back(self):
        self.assertEqual(self.judged(size, "right frame a 1; left set a 2; left back; left hear"), [1, 1, 2])
        text = "right frame a 1; left set a 2; left set a 0; left back; left hear"
        self.assertEqual(self.judged(size, text), [2, 1, 2])

    def test_the_answer_is_heard(self):
        text = "left set a 2; right hear; right answer; left hear; right frame a 1; left hear"
        self.assertEqual(self.judged(size, text), [2, 2, 2])

    def test_the_answer_is_heard_for_one_of_two(self):
        text = "left set a 2; left set a 1; right hear; right answer; left hear; right frame a 1; left hear"
        self.assertEqual(self.judged(size, text), [1, 2, 2])

    def test_the_answer_to_a_change_that_was_asked_back(self):
        text = "left set a 2; right hear; right answer; left back; left hear; right frame a 1; left hear"
        self.assertEqual(self.judged(size, text), [2, 2, 2])

    def test_no_is_heard(self):
        text = "left set a 2; left back; right hear; right hear; right no; left hear; right frame a 1; left hear"
        self.assertEqual(self.judged(size, text), [1, 1, 1])

    def test_changes_of_another_setting_do_not_count(self):
        left = End({"a": size(hold="sent"), "b": size(hold="open")}, {}, {}, 2)
        pact = Pact(left, End({}, {"a": "heard", "b": "heard"}, {}, 1))
        self.assertEqual(verdict_of(pact, "right frame b 1; left set a 2; left hear"), ("b", 1, 1, "kept"))
        self.assertEqual(verdict_of(pact, "right frame a 1; left set b 2; left hear"), ("a", 1, 1, "kept"))


class UseTest(unittest.TestCase):
    """[6], [7] Which frames are made."""

    def test_sizes(self):
        pact = one_way(size([(1, 2), (2, 0)]), "heard", most=2)
        self.assertEqual(letters(pact, "", "right"), ["frame a 0", "frame a 1"])
        self.assertEqual(letters(pact, "left set a 2", "right"), ["frame a 0", "frame a 1"])
        told = letters(pact, "left set a 2; right hear", "right")
        self.assertEqual(told, ["answer", "frame a 0", "frame a 1", "frame a 2"])
        told = letters(pact, "left set a 2; left set a 0; right hear; right hear", "right")
        self.assertEqual(told, ["answer", "frame a 0"])

    def test_use_of_what_is_answered(self):
        pact = one_way(size([(1, 2), (2, 0)]), "answered", most=2)
        self.assertEqual(letters(pact, "left set a 2; right hear", "right"), ["answer", "frame a 0", "frame a 1"])
        told = letters(pact, "left set a 2; right hear; right answer", "right")
        self.assertEqual(told, ["frame a 0", "frame a 1", "frame a 2"])

    def test_tables(self):
        for use, value in (("heard", 2), ("answered", 1)):
            pact = one_way(table(), use)
            self.assertEqual(letters(pact, "", "right"), ["frame a 1"])
            self.assertEqual(letters(pact, "left set a 2; right hear", "right"), ["answer", f"frame a {value}"])
            self.assertEqual(letters(pact, "left set a 2; right hear; right answer", "right"), ["frame a 2"])

    def test_a_refused_change_is_not_in_use(self):
        pact = one_way(size([(1, 2), (2, 0)]), "heard", most=2)
        self.assertEqual(letters(pact, "left set a 2; left back; right hear; right hear", "right"),
                         ["no", "frame a 0", "frame a 1"])
        text = "left set a 2; left set a 0; left back; right hear; right hear; right hear"
        self.assertEqual(letters(pact, text, "right"), ["answer", "frame a 0", "frame a 1", "frame a 2"])

    def test_rooms(self):
        pact = one_way(room([(1, 2), (1, 0)]), "heard")
        self.assertEqual(letters(pact, "", "right"), ["frame a 0"])
        self.assertEqual(letters(pact, "right frame a 0", "right"), [])
        self.assertEqual(letters(pact, "right frame a 0; left set a 2; right hear", "right"), ["answer", "frame a 0"])
        self.assertEqual(letters(pact, "left set a 0; right hear", "right"), ["answer"])
        self.assertEqual(letters(pact, "left set a 0; right hear; right answer", "right"), [])


class RoomTest(unittest.TestCase):
    def test_held_and_credit(self):
        machine = Machine(one_way(room(start=2), "heard"))
        machine.play(weaving("right frame a 0; right frame a 0"))
        self.assertEqual((machine.local("right")[4], machine.moves("right")), ((2,), []))
        self.assertEqual(machine(move("left hear")), ("a", 1, 2, "kept"))
        self.assertEqual(machine(move("left hear")), ("a", 2, 2, "kept"))
        self.assertEqual(machine.local("left")[5], (2,))
        machine.play(weaving("left done a; left done a"))
        self.assertEqual((machine.local("left")[5], machine.local("right")[4]), ((0,), (2,)))
        self.assertNotIn(move("left done a"), machine.moves())
        machine.play(weaving("right hear; right hear"))
        self.assertEqual(machine.local("right")[4], (0,))
        self.assertEqual(machine.moves("right"), [move("right frame a 0")])

    def test_a_frame_that_passes_is_thrown_away(self):
        machine = Machine(one_way(room([(2, 1)], "sent", start=2), "heard"))
        machine.play(weaving("right frame a 0; right frame a 0; left set a 1; left hear"))
        self.assertEqual(machine(move("left hear")), ("a", 2, 1, "passed"))
        self.assertEqual((machine.local("left")[5], machine.local("right")[4]), ((1,), (2,)))
        machine.play(weaving("left done a; right hear; right answer; right hear; left hear"))
        self.assertEqual(machine.moves(), [])
        self.assertEqual(machine.local("right")[4], (1,))


class DeedTest(unittest.TestCase):
    """[7] What letters do to their ends."""

    def test_a_change_and_its_answer(self):
        machine = Machine(example())
        machine(move("left set a 2"))
        self.assertEqual(machine.state, (((1,), (("a", 2, 0),), (), (), (), ()), ((), (), (), (1,), (), ()),
                                         (("set", "a", 2),), ()))
        machine(move("right hear"))
        self.assertEqual(machine.local("right"), ((), (), (("a", 2, 0),), (1,), (), ()))
        machine(move("right answer"))
        self.assertEqual(machine.local("right"), ((), (), (), (2,), (), ()))
        self.assertEqual(machine.local("left"), ((1,), (("a", 2, 0),), (), (), (), ()))
        machine(move("left hear"))
        self.assertEqual(machine.state, (((2,), (), (), (), (), ()), ((), (), (), (2,), (), ()), (), ()))

    def test_asked_back_ahead_of_the_answer(self):
        machine = Machine(one_way(size(), "heard"))
        machine.play(weaving("left set a 2; left back"))
        self.assertEqual(machine.local("left")[1], (("a", 2, 1),))
        self.assertNotIn(move("left back"), machine.moves())
        machine.play(weaving("right hear; right hear"))
        self.assertEqual(machine.local("right")[2], (("a", 2, 1),))
        self.assertNotIn(move("right answer"), machine.moves())
        machine(move("right no"))
        self.assertEqual(machine.local("right"), ((), (), (), (1,), (), ()))
        machine(move("left hear"))
        self.assertEqual(machine.state, first_state(machine.pact))

    def test_asked_back_too_late(self):
        machine = Machine(one_way(size(), "heard"))
        machine.play(weaving("left set a 2; right hear; right answer; left back; right hear"))
        self.assertEqual(machine.local("right"), ((), (), (), (2,), (), ()))
        self.assertEqual(machine.local("left"), ((1,), (("a", 2, 1),), (), (), (), ()))
        machine(move("left hear"))
        self.assertEqual(machine.local("left"), ((2,), (), (), (), (), ()))

    def test_only_the_last_change_is_asked_back(self):
        machine = Machine(one_way(size(), "heard", most=3))
        machine.play(weaving("left set a 2; left set a 1; left back"))
        self.assertEqual(machine.local("left")[1], (("a", 2, 0), ("a", 1, 1)))
        self.assertNotIn(move("left back"), machine.moves())
        self.assertEqual([one for one in machine.moves("left") if one[1][0] == "set"], [move("left set a 1")])
        machine.play(weaving("left set a 1; left back"))
        self.assertEqual(machine.local("left")[1], (("a", 2, 0), ("a", 1, 1), ("a", 1, 1)))
        machine.play(weaving("right hear; right hear; right hear; right hear; right hear"))
        self.assertEqual(machine.local("right")[2], (("a", 2, 0), ("a", 1, 1), ("a", 1, 1)))
        machine.play(weaving("right answer; right no; right no; left hear; left hear; left hear"))
        self.assertEqual(machine.state[:2], (((2,), (), (), (), (), ()), ((), (), (), (2,), (), ())))

    def test_changes_that_cross(self):
        left = End({"a": size()}, {"b": "heard"}, {}, 1)
        pact = Pact(left, End({"b": table()}, {"a": "heard"}, {}, 1))
        machine = Machine(pact)
        machine.play(weaving("left set a 2; right set b 2; left hear; right hear"))
        self.assertEqual(machine.local("left"), ((1,), (("a", 2, 0),), (("b", 2, 0),), (1,), (), ()))
        self.assertEqual(machine.local("right"), ((1,), (("b", 2, 0),), (("a", 2, 0),), (1,), (), ()))
        machine.play(weaving("right answer; left answer; right hear; left hear"))
        self.assertEqual(machine.state, (((2,), (), (), (2,), (), ()), ((2,), (), (), (2,), (), ()), (), ()))

    def test_most_changes_open(self):
        for most in (1, 2, 3):
            machine = Machine(one_way(size([(0, 1), (1, 0)], many=2), "heard", most=most))
            for at in range(most):
                machine(("left", ("set", "a", at % 2)))
            self.assertEqual([one for one in machine.moves("left") if one[1][0] == "set"], [])
            machine.play(weaving("right hear; right answer"))
            self.assertEqual([one for one in machine.moves("left") if one[1][0] == "set"], [])
            machine(move("left hear"))
            self.assertEqual(len([one for one in machine.moves("left") if one[1][0] == "set"]), 1)

    def test_the_next_change_starts_from_the_newest_value(self):
        pact = one_way(size([(1, 2), (2, 0), (1, 0)]), "heard", most=2)
        self.assertEqual(letters(pact, "", "left"), ["set a 0", "set a 2"])
        self.assertEqual(letters(pact, "left set a 2", "left"), ["set a 0", "back"])
        self.assertEqual(letters(pact, "left set a 2; left back", "left"), ["set a 0", "set a 2"])
        self.assertEqual(letters(pact, "left set a 0", "left"), ["back"])


class RulesTest(unittest.TestCase):
    """[4], [7] Rules bar deeds."""

    def test_each_deed(self):
        left = End({"a": size(), "r": room()}, {"b": "heard"}, {}, 2)
        right = End({"b": size()}, {"a": "heard", "r": "heard"}, {}, 1)
        text = "right set b 2; left hear; left set a 2; right frame r 0; left hear"
        full = ["set a 1", "set r 2", "back", "answer", "frame b 0", "frame b 1", "frame b 2", "done r"]
        self.assertEqual(letters(Pact(left, right), text, "left"), full)
        # The text needs a change with none open and one owed; behind it one is open and one is owed.
        for deed in ("set", "back", "answer", "frame", "done"):
            for pairs in ([(0, 1)], [(0, 1), (1, 0), (2, 1), (1, 2)], [(0, 1), (1, 1)], None):
                barred = Pact(left.with_pairs(deed, pairs), right)
                lets = pairs is None or (1, 1) in pairs
                told = [one for one in full if lets or one.split()[0] != deed]
                self.assertEqual(letters(barred, text, "left"), told, (deed, pairs))

    def test_no_goes_by_the_rule_for_answers(self):
        text = "left set a 2; left back; right hear; right hear"
        self.assertEqual(letters(one_way(table(), "heard"), text, "right"), ["no", "frame a 1"])
        self.assertEqual(letters(one_way(table(), "heard", {}, {"answer": []}), text, "right"), ["frame a 1"])

    def test_numbers_are_those_ahead_of_the_letter(self):
        pact = one_way(size(), "heard", {"set": [(0, 0)], "back": [(1, 0)]}, {"answer": [(0, 1)], "frame": [(0, 1)]})
        text = "left set a 2; left back; right hear; right frame a 2; right hear; right no; left hear; left hear"
        self.assertEqual(played(pact, weaving(text)).state, first_state(pact))
        self.assertEqual(letters(pact, "", "right"), [])

    def test_hearing_is_never_barred(self):
        rules = {deed: [] for deed in ("back", "answer", "frame", "done")}
        pact = one_way(size(), "heard", rules, rules | {"set": []})
        self.assertEqual(played(pact, weaving("left set a 2")).moves(), [move("right hear")])


class MovesTest(unittest.TestCase):
    def test_order(self):
        left = End({"c": room(), "a": size([(1, 2), (1, 0)])}, {"d": "heard", "b": "heard"}, {}, 2)
        right = End({"d": size(), "b": table()}, {"c": "heard", "a": "heard"}, {}, 2)
        machine = Machine(Pact(left, right))
        machine.play(weaving("right set b 2; left hear; right frame c 0; left hear; left set c 2; right frame a 0"))
        own = ["set a 0", "set a 2", "set c 1", "back", "answer", "frame b 2", "frame d 0", "frame d 1", "done c", "hear"]
        other = ["set b 1", "set d 2", "back", "frame a 0", "frame a 1", "hear"]
        lefts = [move(f"left {text}") for text in own]
        rights = [move(f"right {text}") for text in other]
        self.assertEqual(machine.moves("left"), lefts)
        self.assertEqual(machine.moves(name="right"), rights)
        self.assertEqual(machine.moves(), lefts + rights)
        self.assertEqual(machine.moves(None), lefts + rights)

    def test_no_moves(self):
        machine = Machine(Pact(End({}, {}, {}, 1), End({}, {}, {}, 1)))
        self.assertEqual((machine.moves(), machine.moves("left"), machine.moves("right")), ([], [], []))

    def test_any_number_of_frames_under_way(self):
        machine = Machine(example())
        for _ in range(20):
            machine(move("right frame a 1"))
        self.assertEqual(machine.lane("left"), [("frame", "a", 1)] * 20)
        self.assertEqual([machine(move("left hear")) for _ in range(20)], [("a", 1, 1, "kept")] * 20)
        self.assertEqual(machine.verdicts(), [("a", 1, 1, "kept")] * 20)

    def test_lanes_keep_the_order(self):
        machine = Machine(example())
        machine.play(weaving("right frame a 1; left set a 2; right frame a 0; right frame a 1; right hear; right frame a 2"))
        self.assertEqual(machine.lane("left"), [("frame", "a", 1), ("frame", "a", 0), ("frame", "a", 1), ("frame", "a", 2)])
        self.assertEqual(machine.lane(name="right"), [])
        machine(move("left hear"))
        self.assertEqual(machine.lane("left"), [("frame", "a", 0), ("frame", "a", 1), ("frame", "a", 2)])
        self.assertEqual(machine.state[2:], ((), tuple(machine.lane("left"))))


class MachineTest(unittest.TestCase):
    def test_start(self):
        pact = example()
        for machine in (Machine(pact), Machine(pact=pact)):
            self.assertIs(machine.pact, pact)
            self.assertEqual(machine.state, first_state(pact))
            self.assertEqual(machine.verdicts(), [])
            self.assertEqual((machine.local("left"), machine.local(name="right")), machine.state[:2])

    def test_values_that_are_no_pact(self):
        for value in ODD + [example().left]:
            for call in (lambda: Machine(value), lambda: played(value, []), lambda: played(value, None),
                         lambda: list(states_of(value, [])), lambda: list(states_of(value, None))):
                with self.assertRaises(BadArgument) as told:
                    call()
                self.assertIs(told.exception.value, value)

    def test_values_that_are_no_name(self):
        machine = Machine(example())
        for value in ODD + ["a", "lefts"]:
            calls = [lambda: machine.local(value), lambda: machine.lane(value)]
            for call in calls + ([lambda: machine.moves(value)] if value is not None else []):
                with self.assertRaises(BadName) as told:
                    call()
                self.assertIs(told.exception.value, value)

    def test_values_that_are_no_move(self):
        machine = Machine(example())
        for value in NO_MOVES + [move("left hear"), move("left back"), move("left answer"), move("left set a 1"),
                                 move("left set a 0"), move("right frame a 2"), move("right set a 2"), move("left frame a 1"),
                                 move("right done a"), ("right", ("frame", "a", True)), ("right", ("frame", "a", False))]:
            with self.assertRaises(BadMove) as told:
                machine(value)
            self.assertIs(told.exception.value, value)
        self.assertEqual((machine.state, machine.verdicts()), (first_state(example()), []))
        machine(move=move("left set a 2"))

    def test_hear_with_more_to_it(self):
        machine = played(example(), weaving("left set a 2"))
        for value in (("right", ("hear", 0)), ("right", "hear"), ("right", ["hear"]), ("left", ("hear",))):
            with self.assertRaises(BadMove):
                machine(value)
        self.assertIsNone(machine(("right", ("hear",))))

    def test_play(self):
        machine = Machine(example())
        self.assertIsNone(machine.play(weaving("left set a 2; right hear; right frame a 2; left hear; right frame a 1")))
        self.assertIsNone(machine.play(weaving=weaving("left hear")))
        self.assertEqual(machine.verdicts(), [("a", 2, 1, "refused"), ("a", 1, 1, "kept")])
        self.assertIsNone(machine.play([]))

    def test_play_of_a_wrong_weaving_makes_no_move(self):
        machine = Machine(example())
        machine.play(weaving("right frame a 1; left hear"))
        state, verdicts = machine.state, machine.verdicts()
        good = weaving("right frame a 0; left hear; left set a 2")
        for value in NO_MOVES + [move("left back"), move("left answer")]:
            for at in (0, 1, 3):
                with self.assertRaises(BadScript) as told:
                    machine.play(good[:at] + [value] + good)
                self.assertEqual(told.exception.at, at)
        self.assertEqual((machine.state, machine.verdicts()), (state, verdicts))

    def test_play_of_no_list(self):
        machine = played(example(), weaving("left set a 2"))
        for value in [None, True, 0, "", "left hear", (), (move("right hear"),), {}, {0: move("right hear")}, Picky(),
                      iter([]), object()]:
            with self.assertRaises(BadScript) as told:
                machine.play(value)
            self.assertEqual(told.exception.at, 0)
            with self.assertRaises(BadScript) as told:
                played(example(), value)
            self.assertEqual(told.exception.at, 0)
        self.assertEqual(machine.state, played(example(), weaving("left set a 2")).state)

    def test_first_wrong_move_is_told(self):
        with self.assertRaises(BadScript) as told:
            played(example(), weaving("left set a 2; right hear; left hear; left hear"))
        self.assertEqual(told.exception.at, 2)

    def test_copied(self):
        machine = played(example(), weaving("left set a 2; right hear; right frame a 2; left hear"))
        other = machine.copied()
        self.assertEqual((other.pact, other.state, other.verdicts()), (machine.pact, machine.state, machine.verdicts()))
        other.play(weaving("right frame a 0; left hear"))
        machine(move("right answer"))
        self.assertEqual(machine.verdicts(), [("a", 2, 1, "refused")])
        self.assertEqual(other.verdicts(), [("a", 2, 1, "refused"), ("a", 0, 1, "kept")])
        self.assertEqual((machine.lane("left"), other.lane("left")), ([("answer",)], []))

    def test_played(self):
        text = "left set a 2; right hear; right frame a 2; left hear"
        machine = played(pact=example(), weaving=weaving(text))
        self.assertEqual(machine.verdicts(), [("a", 2, 1, "refused")])
        self.assertEqual(played(example(), []).state, first_state(example()))

    def test_properties_cannot_be_assigned(self):
        for name in ("pact", "state"):
            with self.assertRaises(AttributeError):
                setattr(Machine(example()), name, None)

    def test_lists_belong_to_the_caller(self):
        machine = played(example(), weaving("right frame a 1; left hear; right frame a 0"))
        machine.lane("left").clear()
        machine.moves().clear()
        machine.moves("left").append(None)
        machine.verdicts().append(None)
        self.assertEqual(machine.lane("left"), [("frame", "a", 0)])
        self.assertEqual(machine.verdicts(), [("a", 1, 1, "kept")])
        self.assertEqual(machine.moves("left"), [move("left set a 2"), move("left hear")])
        given = weaving("right frame a 0")
        machine.play(given)
        self.assertEqual(given, weaving("right frame a 0"))

    def test_a_crowded_pact_is_played(self):
        machine = Machine(crowded())
        for _ in range(60):
            machine(machine.moves()[-1])
        self.assertEqual(len(machine.moves("left")) > 0, True)


class StatesOfTest(unittest.TestCase):
    def test_states(self):
        moves = weaving("left set a 2; right hear; right frame a 2; left hear")
        told = [played(example(), moves[:many]).state for many in range(5)]
        self.assertEqual(list(states_of(example(), moves)), told)
        self.assertEqual(list(states_of(pact=example(), weaving=[])), [first_state(example())])

    def test_no_error_ahead_of_the_first_value(self):
        states_of(None, [])
        states_of(example(), None)

    def test_no_list(self):
        for value in (None, (), "", {}, 0, True, Picky(), (move("left set a 2"),)):
            with self.assertRaises(BadScript) as told:
                next(states_of(example(), value))
            self.assertEqual(told.exception.at, 0)

    def test_wrong_move_when_the_generator_comes_there(self):
        told = states_of(example(), [move("left set a 2"), None, move("right hear")])
        self.assertEqual(next(told), first_state(example()))
        self.assertEqual(next(told), played(example(), weaving("left set a 2")).state)
        with self.assertRaises(BadScript) as error:
            next(told)
        self.assertEqual(error.exception.at, 1)

    def test_later_changes_of_the_list_do_not_matter(self):
        moves = weaving("left set a 2; right hear")
        told = states_of(example(), moves)
        next(told)
        moves[0] = None
        moves.clear()
        self.assertEqual(len(list(told)), 2)

    def test_the_list_is_looked_at_when_the_first_value_is_asked_for(self):
        moves = []
        told = states_of(example(), moves)
        moves.append(move("left set a 2"))
        self.assertEqual(len(list(told)), 2)


class AgreementTest(unittest.TestCase):
    """The machine and the second player of the tests make the same moves, with any number of frames under way."""

    def test_all_weavings_of_few_moves(self):
        for name, pact in small_pacts().items():
            with self.subTest(name=name):
                layer = {Machine(pact).state: (Machine(pact), World(pact))}
                for _ in range(5):
                    layer = self.behind(layer)

    def behind(self, layer):
        found = {}
        for machine, world in layer.values():
            moves = machine.moves()
            self.assertEqual(moves, ordered_moves(world))
            for one in moves:
                next_machine, next_world = machine.copied(), world.copied()
                self.assertEqual(next_machine(one), next_world.make(one))
                self.assertEqual(next_machine.state, next_world.state())
                found[next_machine.state] = (next_machine, next_world)
        return found

    def test_long_weavings(self):
        pacts = small_pacts()
        pacts["crowded"] = crowded()
        for name, pact in pacts.items():
            for stride in (1, 2, 3, 5, 7):
                with self.subTest(name=name, stride=stride):
                    machine, world = Machine(pact), World(pact)
                    for at in range(120):
                        moves = machine.moves()
                        self.assertEqual(moves, ordered_moves(world))
                        if len(machine.lane("left")) + len(machine.lane("right")) > 9:
                            moves = [one for one in moves if one[1] == ("hear",)]
                        if moves:
                            one = moves[at * stride % len(moves)]
                            self.assertEqual(machine(one), world.make(one))
                            self.assertEqual(machine.state, world.state())


if __name__ == "__main__":
    unittest.main()
