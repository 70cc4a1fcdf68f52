"""[1], [2], [11], [22] Halves: tables of one end, and whether two of them join."""

import itertools
import random
import unittest
from unittest import mock

import stepping
from answeredsettings import spaces
from answeredsettings.ends import End
from answeredsettings.errors import BadArgument, BadHalf, BadName, BadState, TooMany
from answeredsettings.halves import Half, half_of, joins
from answeredsettings.machine import Machine, played
from answeredsettings.pacts import NAMES, Pact
from answeredsettings.states import first_state
from answeredsettings.verdicts import verdicts
from graphs import PACTS, each, walked
from samples import (
    FAR, ODD, START, USED, Picky, crowded, example, many_watched, move, one_way, room, size, two_at_one, two_way, weaving,
)

FRAMES = [("frame", "a", number) for number in range(3)]
OPENED = ((1,), (("a", 2, 0),), (), (), (), ())
# Local states of the maker of the example: a change is owed, refused, and answered.
OWED = ((), (), (("a", 2, 0),), (1,), (), ())
REFUSED = ((), (), (("a", 2, 1),), (1,), (), ())


def rows_of(half):
    return {local: half[local] for local in half}


def heard_in(pact, rows, name):
    """What an end hears in its local states, told by the second stepping: (local state, letter) and depth."""
    at = NAMES.index(name)
    return [(state, state[at], (state[2], state[3])[1 - at][0]) for state in rows if (state[2], state[3])[1 - at]]


def rows_by_stepping(pact, rows, name):
    found = {state[NAMES.index(name)]: set() for state in rows}
    for _, local, letter in heard_in(pact, rows, name):
        found[local].add(letter)
    return {local: sorted(letters, key=str) for local, letters in found.items()}


def fault_by_stepping(half):
    """The first fault of a half, from the list of all of its faults."""
    pact, name = half.pact, half.name
    if stepping.start(pact)[NAMES.index(name)] not in half:
        return ("start",)
    found = []
    for local in half:
        for letter, behind in stepping.sends(pact, name, local):
            if behind not in half:
                found.append((str(local), 0, str(letter), ("sends", local, letter)))
        for letter in half[local]:
            if stepping.heard(pact, name, local, letter)[0] not in half:
                found.append((str(local), 1, str(letter), ("hears", local, letter)))
    return min(found)[3] if found else None


def fewest_to_part(pact, rows, depth, halves):
    """The fewest moves to a hearing that is not taken for granted, None if there is none."""
    found = []
    for name in NAMES:
        for state, local, letter in heard_in(pact, rows, name):
            if local not in halves[name] or letter not in halves[name][local]:
                found.append(depth[state] + 1)
    return min(found, default=None)


def changed(half, seed):
    """Halves near to a half: with a local state or a letter less, or a letter more."""
    chance = random.Random(seed)
    rows = rows_of(half)
    locals_with_letters = [local for local in rows if rows[local]]
    some = chance.choice(list(rows))
    yield Half(half.pact, half.name, {local: rows[local] for local in rows if local != some})
    if locals_with_letters:
        some = chance.choice(locals_with_letters)
        letter = chance.choice(rows[some])
        yield Half(half.pact, half.name, {**rows, some: [one for one in rows[some] if one != letter]})
    some = chance.choice(list(rows))
    letters = [letter for letter in all_letters(half.pact, half.name) if is_heard(half.pact, half.name, some, letter)]
    if letters:
        yield Half(half.pact, half.name, {**rows, some: rows[some] + [chance.choice(letters)]})


def all_letters(pact, name):
    """All letters of the end at the other side."""
    return stepping.Record(pact, stepping.other(name), stepping.start(pact)[1 - NAMES.index(name)]).all_letters()


def is_heard(pact, name, local, letter):
    """Whether a letter can be heard in a local state."""
    opened, owed, credit = local[1], local[2], local[4]
    return {
        "set": len(owed) < pact.end(stepping.other(name)).most, "answer": bool(opened), "no": bool(opened),
        "done": sum(credit) > 0, "back": True, "frame": True,
    }[letter[0]]


def largest(pact, name):
    """The half with all local states that an end comes to, and all letters that can be heard there."""
    return Half(pact, name, {
        local: [letter for letter in all_letters(pact, name) if is_heard(pact, name, local, letter)]
        for local in half_of(pact, name)})


class HalfTest(unittest.TestCase):
    def test_example(self):
        half = half_of(example(), "left")
        self.assertEqual(set(half), {
            (base, opened, (), (), (), ()) for base, opened in (
                ((1,), ()), ((1,), (("a", 2, 0),)), ((2,), ()), ((2,), (("a", 1, 0),)))})
        self.assertEqual(half[START], FRAMES[:2])
        self.assertEqual(half[OPENED], [("answer",)] + FRAMES)
        self.assertEqual(half.verdicts(), [
            ("a", 0, 1, "kept"), ("a", 0, 2, "kept"), ("a", 1, 1, "kept"), ("a", 1, 2, "kept"), ("a", 2, 1, "refused"),
            ("a", 2, 2, "kept")])
        maker = half_of(example(), "right")
        self.assertEqual(maker[USED], [("set", "a", 2)])
        self.assertEqual(maker[OWED], [])
        self.assertEqual(maker.verdicts(), [])
        self.assertIsNone(half.fault())
        self.assertIsNone(maker.fault())
        self.assertIsNone(joins(half, maker))

    def test_properties(self):
        pact = example()
        half = Half(pact, "left", {START: []})
        self.assertIs(half.pact, pact)
        self.assertEqual(half.name, "left")
        self.assertEqual(len(half), 1)
        with self.assertRaises(AttributeError):
            half.name = "right"
        with self.assertRaises(AttributeError):
            half.pact = pact

    def test_no_local_state(self):
        half = Half(example(), "right", {})
        self.assertEqual((len(half), list(half), half.verdicts()), (0, [], []))
        self.assertEqual(half.fault(), ("start",))
        self.assertNotIn(USED, half)
        self.assertLessEqual(half, half)
        self.assertEqual(half + half, half)

    def test_letters_in_the_order_of_their_texts(self):
        letters = [("no",), FRAMES[2], ("answer",), FRAMES[0], ("no",), FRAMES[0]]
        half = Half(example(), "left", {OPENED: letters})
        self.assertEqual(half[OPENED], [("answer",), FRAMES[0], FRAMES[2], ("no",)])
        self.assertEqual(half[OPENED], sorted(set(letters), key=str))

    def test_local_states_without_letters(self):
        half = Half(example(), "left", {START: [], OPENED: FRAMES[:1]})
        self.assertEqual(half[START], [])
        self.assertIn(START, half)
        self.assertNotIn(FAR, half)

    def test_any_value_in_a_half(self):
        half = half_of(example(), "left")
        for value in ODD + [OWED, USED, FAR[:5], list(START), (START,), ((True,),) + START[1:], ((1.0,),) + START[1:]]:
            self.assertIs(value in half, False)
            with self.assertRaises(BadState) as told:
                half[value]
            self.assertIs(told.exception.value, value)
        self.assertIs(START in half, True)
        self.assertRaises(BadState, lambda: Half(example(), "left", {START: []})[FAR])

    def test_letters_that_can_be_heard(self):
        """All that [22] lets be heard is taken, and what it does not is not, in local states that are never come to, too."""
        left = End({"a": size([], many=2), "c": room([], many=2)}, {"b": "heard"}, {}, 2)
        pact = Pact(left, End({"b": room([], many=2)}, {"a": "heard", "c": "answered"}, {}, 1))
        changes = [("a", 0, 0), ("c", 1, 1)]
        for opened, owed, credit in itertools.product(range(3), range(2), range(2)):
            local = ((1, 0), tuple(changes[:opened]), (("b", 0, 1),) * owed, (0,), (credit,), (1,))
            for letter in all_letters(pact, "left"):
                rows = {local: [letter]}
                if is_heard(pact, "left", local, letter):
                    self.assertEqual(Half(pact, "left", rows)[local], [letter])
                else:
                    with self.assertRaises(BadHalf) as told:
                        Half(pact, "left", rows)
                    self.assertIs(told.exception.value, rows)

    def test_a_change_is_heard_while_fewer_are_owed_than_the_other_ends_most(self):
        left = End({"a": size([], many=2)}, {}, {}, 2)
        pact = Pact(left, End({}, {"a": "heard"}, {}, 1))
        for owed in range(3):
            rows = {((), (), (("a", 1, 0),) * owed, (1,), (), ()): [("set", "a", 1)]}
            if owed < 2:
                self.assertEqual(len(Half(pact, "right", rows)), 1)
            else:
                self.assertRaises(BadHalf, Half, pact, "right", rows)


class FaultTest(unittest.TestCase):
    def test_the_local_state_at_the_start(self):
        self.assertEqual(Half(example(), "left", {OPENED: [("answer",)]}).fault(), ("start",))

    def test_sends_come_ahead_of_hearings(self):
        """In each local state, in the order of the texts of these and of their letters."""
        pact = one_way(size([(1, 2), (1, 0)]), "heard", {"back": []})
        rows = {START: FRAMES}
        self.assertEqual(Half(pact, "left", rows).fault(), ("sends", START, ("set", "a", 0)))
        zero = ((1,), (("a", 0, 0),), (), (), (), ())
        rows[zero] = FRAMES
        self.assertEqual(Half(pact, "left", rows).fault(), ("sends", START, ("set", "a", 2)))
        rows[OPENED] = [("no",), ("answer",)]
        self.assertEqual(Half(pact, "left", rows).fault(), ("hears", OPENED, ("answer",)))
        rows[zero] = [("no",), ("answer",)]
        self.assertEqual(Half(pact, "left", rows).fault(), ("hears", zero, ("answer",)))
        rows[((0,), (), (), (), (), ())] = FRAMES
        rows[FAR] = []
        self.assertIsNone(Half(pact, "left", rows).fault())
        # Both in one local state.
        pact = one_way(size(), "heard", {"back": []}, most=2)
        rows = {START: [], OPENED: [("answer",)]}
        self.assertEqual(Half(pact, "left", rows).fault(), ("sends", OPENED, ("set", "a", 1)))

    def test_local_states_in_the_order_of_their_texts(self):
        rows = {FAR: [], START: FRAMES}
        self.assertEqual(Half(example(), "left", rows).fault(), ("sends", START, ("set", "a", 2)))
        rows[OPENED] = []
        self.assertEqual(Half(example(), "left", rows).fault(), ("sends", FAR, ("set", "a", 1)))

    def test_letters_that_are_not_taken_for_granted_lead_nowhere(self):
        pact = example().with_end("left", example().left.with_pairs("set", []))
        self.assertIsNone(Half(pact, "left", {START: []}).fault())
        self.assertIsNone(Half(pact, "left", {START: FRAMES}).fault())

    def test_asking_back_what_is_not_owed(self):
        """("back",) can always be heard, also if nothing is owed: then nothing comes of it."""
        self.assertIsNone(Half(example(), "right", {USED: [("back",)]}).fault())
        rows = {OWED: [("back",)], USED: [], ((), (), (), (2,), (), ()): []}
        self.assertEqual(Half(example(), "right", rows).fault(), ("hears", OWED, ("back",)))
        rows[REFUSED] = [("back",)]
        self.assertIsNone(Half(example(), "right", rows).fault())

    def test_all_that_can_be_heard(self):
        """A half with all letters leads to local states that no weaving comes to."""
        pact = example()
        rows = {local: [letter for letter in all_letters(pact, "right") if is_heard(pact, "right", local, letter)]
                for local in (USED, OWED, REFUSED)}
        self.assertEqual(Half(pact, "right", rows).fault(), fault_by_stepping(Half(pact, "right", rows)))

    def test_verdicts(self):
        half = Half(example(), "left", {FAR: FRAMES, OPENED: [("answer",), FRAMES[2]], START: []})
        self.assertEqual(half.verdicts(), [
            ("a", 0, 2, "kept"), ("a", 1, 2, "kept"), ("a", 2, 1, "refused"), ("a", 2, 2, "kept")])
        pact = one_way(room([]), "heard")
        held = ((1,), (), (), (), (), (1,))
        half = Half(pact, "left", {held: [("frame", "a", 0)], ((1,), (), (), (), (), (0,)): [("frame", "a", 0)]})
        self.assertEqual(half.verdicts(), [("a", 1, 1, "kept"), ("a", 2, 1, "passed")])


class TwoHalvesTest(unittest.TestCase):
    def test_sum(self):
        one = Half(example(), "left", {START: [FRAMES[2], FRAMES[0]], OPENED: []})
        other = Half(example(), "left", {START: FRAMES[:2], FAR: [FRAMES[1]]})
        both = one + other
        self.assertEqual(rows_of(both), {START: FRAMES, OPENED: [], FAR: [FRAMES[1]]})
        self.assertEqual(both, other + one)
        self.assertEqual((rows_of(one)[START], len(other)), ([FRAMES[0], FRAMES[2]], 2))
        self.assertLessEqual(one, both)
        self.assertLessEqual(other, both)
        self.assertIs(both <= one, False)
        self.assertIs(one <= other, False)
        self.assertEqual((both.pact, both.name), (example(), "left"))

    def test_order_asks_for_local_states_and_letters(self):
        one = Half(example(), "left", {START: FRAMES[:1]})
        self.assertIs(one <= Half(example(), "left", {START: FRAMES[:1]}), True)
        self.assertIs(one <= Half(example(), "left", {START: FRAMES, FAR: []}), True)
        self.assertIs(one <= Half(example(), "left", {START: FRAMES[1:]}), False)
        self.assertIs(one <= Half(example(), "left", {FAR: FRAMES[:1]}), False)
        self.assertIs(Half(example(), "left", {FAR: []}) <= one, False)
        self.assertIs(Half(example(), "left", {START: []}) <= one, True)
        self.assertIs(Half(example(), "left", {}) <= one, True)

    def test_equal(self):
        one = Half(example(), "left", {START: FRAMES, OPENED: [("no",)]})
        self.assertEqual(one, Half(example(), "left", {OPENED: [("no",), ("no",)], START: FRAMES[::-1] + FRAMES}))
        self.assertNotEqual(one, Half(example(), "left", {START: FRAMES, OPENED: []}))
        self.assertNotEqual(one, Half(example(), "left", {START: FRAMES}))
        self.assertNotEqual(one, Half(one_way(size(), "answered", {"back": []}), "left", rows_of(one)))
        empty = Half(example(), "left", {})
        self.assertNotEqual(empty, Half(example(), "right", {}))
        self.assertNotEqual(empty, Half(one_way(size(), "heard"), "left", {}))
        for value in ODD + [rows_of(one), example()]:
            self.assertIs(one == value, False)

    def test_halves_of_another_pact_or_of_the_other_end(self):
        half = Half(example(), "left", {START: []})
        others = [Half(example(), "right", {}), Half(one_way(size(), "heard"), "left", {START: []}),
                  Half(one_way(size(), "heard", {"back": []}, most=2), "left", {})]
        for value in ODD + others + [example(), {START: []}]:
            self.assertIs(half <= value, False)
            with self.assertRaises(BadArgument) as told:
                half + value
            self.assertIs(told.exception.value, value)
        # An equal pact is the same one.
        self.assertEqual(half + Half(example(), "left", {}), half)

    def test_joins_tells_the_first_hearing(self):
        left, right = half_of(example(), "left"), half_of(example(), "right")
        rows = rows_of(left)
        rows[OPENED] = FRAMES[:2] + [("answer",)]
        tight = Half(example(), "left", rows)
        way = joins(tight, right)
        self.assertEqual(len(way), 4)
        self.assertEqual(way[-1], move("left hear"))
        self.assertEqual(played(example(), way).verdicts(), [("a", 2, 1, "refused")])
        self.assertEqual(joins(Half(example(), "left", {}), right), weaving("right frame a 0; left hear"))
        self.assertEqual(joins(left, Half(example(), "right", {USED: []})), weaving("left set a 2; right hear"))
        self.assertEqual(joins(left, Half(example(), "right", {})), weaving("left set a 2; right hear"))

    def test_halves_without_the_start_can_join(self):
        """Nothing is ever heard by an end whose other end sends nothing."""
        pact = one_way(size([]), "heard", {}, {"frame": []})
        self.assertIsNone(joins(Half(pact, "left", {}), Half(pact, "right", {})))
        self.assertEqual(half_of(pact, "left").fault(), None)

    def test_closed_halves_that_join_tell_all_verdicts(self):
        for label in ("example", "room sent heard", "table answered heard", "two ways"):
            pact = PACTS[label]
            halves = [largest(pact, name) for name in NAMES]
            told = [verdict for half in halves for verdict in half.verdicts()]
            self.assertIsNone(joins(*halves))
            for word in pact.words():
                self.assertLessEqual(set(verdicts(pact, word)), set(told))


class SecondSteppingTest(unittest.TestCase):
    def test_half_of(self):
        for label, pact, rows, _ in each():
            for name in NAMES:
                with self.subTest(pact=label, name=name):
                    half = half_of(pact, name)
                    self.assertEqual(rows_of(half), rows_by_stepping(pact, rows, name))
                    self.assertEqual(list(half), sorted(half, key=str))
                    self.assertIsNone(half.fault())
                    self.assertIsNone(fault_by_stepping(half))
                    found = {row[2] for state in rows for row in rows[state] if row[2] is not None and row[0][0] == name}
                    self.assertEqual(half.verdicts(), sorted(found, key=str))
                    self.assertLessEqual(half, largest(pact, name))
            self.assertIsNone(joins(half_of(pact, "left"), half_of(pact, "right")))

    def test_halves_that_are_changed(self):
        parted = 0
        for label, pact, rows, depth in each():
            if len(rows) < 1500:
                halves = {name: half_of(pact, name) for name in NAMES}
                for name in NAMES:
                    for seed in range(4):
                        for half in changed(halves[name], f"{label} {name} {seed}"):
                            parted += self.assert_told(pact, rows, depth, {**halves, name: half})
        self.assertGreater(parted, 50)

    def assert_told(self, pact, rows, depth, halves):
        for half in halves.values():
            self.assertEqual(half.fault(), fault_by_stepping(half))
        way = joins(halves["left"], halves["right"])
        self.assertEqual(way and len(way), fewest_to_part(pact, rows, depth, halves))
        if way is None:
            return 0
        name, letter = way[-1]
        state, _ = walked(pact, way[:-1])
        at = NAMES.index(name)
        local, heard = state[at], (state[2], state[3])[1 - at][0]
        self.assertEqual(letter, ("hear",))
        self.assertFalse(local in halves[name] and heard in halves[name][local])
        return 1

    def test_letters_with_any_number_of_frames_under_way(self):
        """What is heard with many frames in the lanes is heard with one."""
        pact = one_way(size(), "heard")
        halves = {name: half_of(pact, name) for name in NAMES}
        rows = {first_state(pact): None}
        for _ in range(7):
            for state in list(rows):
                if rows[state] is None:
                    rows[state] = stepping.steps(pact, state, most=9)
                    for _, behind, _ in rows[state]:
                        rows.setdefault(behind, None)
        for name in NAMES:
            for _, local, letter in heard_in(pact, rows, name):
                self.assertIn(letter, halves[name][local])

    def test_a_machine_hears_what_is_taken_for_granted(self):
        pact = two_way()
        halves = {name: half_of(pact, name) for name in NAMES}
        chance = random.Random(7)
        machine = Machine(pact)
        for _ in range(300):
            name, letter = chance.choice(machine.moves())
            if letter == ("hear",):
                self.assertIn(machine.lane(name)[0], halves[name][machine.local(name)])
            machine((name, letter))
            self.assertIn(machine.local(name), halves[name])


# Each with what is wrong at one place only.
WRONG_ROWS = [
    {START: ()}, {START: None}, {START: {}}, {START: "answer"}, {START: FRAMES[0]}, {START: tuple(FRAMES)},
    {START: [("answer",)]}, {START: [("no",)]}, {START: [("back",), ("hear",)]}, {START: [("set", "a", 2)]},
    {START: [("frame", "a", 3)]}, {START: [("frame", "a", True)]}, {START: [("frame", "b", 0)]}, {START: [("frame", "a")]},
    {START: [["frame", "a", 0]]}, {START: [("done", "a")]}, {START: [FRAMES[0], Picky()]}, {START: [()]},
    {START: [("back", 1)]}, {USED: []}, {OWED: []}, {START[:5]: []}, {START: [], None: []}, {START: [], "": []},
    {((True,),) + START[1:]: []}, {((3,),) + START[1:]: []}, {((1,), (("a", 2, 2),)) + START[2:]: []},
    {((1,), (("a", 2, 0), ("a", 1, 0))) + START[2:]: []}, {((1,), (), (), (), (0,), ()): []},
]


class CallsTest(unittest.TestCase):
    def test_values_that_are_no_pact(self):
        for value in ODD + [example().left]:
            for call in (lambda: Half(value, None, None), lambda: Half(value, "left", {}), lambda: half_of(value, None)):
                with self.assertRaises(BadArgument) as told:
                    call()
                self.assertIs(told.exception.value, value)

    def test_values_that_are_no_name(self):
        for value in ODD + ["a", "middle"]:
            for call in (lambda: Half(example(), value, None), lambda: half_of(crowded(), value)):
                with self.assertRaises(BadName) as told:
                    call()
                self.assertIs(told.exception.value, value)

    def test_values_that_are_no_rows(self):
        for value in [value for value in ODD if not isinstance(value, dict) or len(value) > 0] + WRONG_ROWS:
            with self.assertRaises(BadHalf) as told:
                Half(example(), "left", value)
            self.assertIs(told.exception.value, value)
        for value in ({START: []}, {USED: [("set", "a", 3)]}, {USED: [FRAMES[0]]}, {OWED: [("set", "a", 1)]}):
            self.assertRaises(BadHalf, Half, example(), "right", value)

    def test_values_that_are_no_halves(self):
        left, right = Half(example(), "left", {}), Half(example(), "right", {})
        for value in ODD + [right, example(), {}]:
            for other in (right, value, None):
                with self.assertRaises(BadArgument) as told:
                    joins(value, other)
                self.assertIs(told.exception.value, value)
        for value in ODD + [left, Half(one_way(size(), "heard"), "right", {}), example()]:
            with self.assertRaises(BadArgument) as told:
                joins(left, value)
            self.assertIs(told.exception.value, value)
        crowded_left = Half(crowded(), "left", {})
        self.assertRaises(BadArgument, joins, crowded_left, right)
        # Pacts that are equal are one.
        self.assertEqual(len(joins(left, right)), 2)

    def test_too_many(self):
        pact = crowded()
        for name in NAMES:
            with self.assertRaises(TooMany) as told:
                half_of(pact, name)
            self.assertEqual(told.exception.limit, 30000)
        self.assertRaises(TooMany, joins, Half(pact, "left", {}), Half(pact, "right", {}))
        # Watched states are counted, though fewer would do.
        self.assertRaises(TooMany, half_of, many_watched(), "left")

    def test_which_search_for_states(self):
        pact = example()
        left, right = half_of(pact, "left"), half_of(pact, "right")
        with mock.patch.object(spaces, "LIMIT", 34):
            for call in (lambda: half_of(pact, "left"), lambda: joins(left, right),
                         lambda: joins(Half(pact, "left", {}), right)):
                self.assertRaises(TooMany, call)
            for half in (left, right):
                self.assertEqual(Half(pact, half.name, rows_of(half)) + half, half)
                self.assertTrue(half <= half)
                self.assertIsNone(half.fault())
                half.verdicts()
        with mock.patch.object(spaces, "LIMIT", 35):
            self.assertEqual(half_of(pact, "left"), left)
            self.assertIsNone(joins(left, right))

    def test_names_of_the_parameters(self):
        half = Half(rows={START: FRAMES}, name="left", pact=example())
        self.assertEqual(half[START], FRAMES)
        self.assertEqual(half_of(name="left", pact=example()), half_of(example(), "left"))
        self.assertIsNone(joins(right=half_of(example(), "right"), left=half_of(example(), "left")))

    def test_dicts_and_lists_belong_to_the_caller(self):
        rows = {START: [FRAMES[1], FRAMES[0], FRAMES[1]]}
        half = Half(example(), "left", rows)
        self.assertEqual(rows, {START: [FRAMES[1], FRAMES[0], FRAMES[1]]})
        rows[START].append(FRAMES[2])
        rows[FAR] = []
        half[START].clear()
        half.verdicts().clear()
        self.assertEqual((half[START], len(half), len(half.verdicts())), (FRAMES[:2], 1, 2))
        told = half_of(example(), "left")
        told[START].clear()
        self.assertEqual(told, half_of(example(), "left"))
        way = joins(Half(example(), "left", {}), half_of(example(), "right"))
        way.clear()
        self.assertEqual(len(joins(Half(example(), "left", {}), half_of(example(), "right"))), 2)

    def test_after_an_error_all_is_as_before(self):
        half = Half(example(), "left", {START: FRAMES})
        self.assertRaises(BadArgument, lambda: half + 1)
        self.assertRaises(BadState, lambda: half[FAR])
        self.assertEqual(rows_of(half), {START: FRAMES})

    def test_two_settings_at_one_end(self):
        pact = two_at_one()
        self.assertIn(("frame", "b", 0), half_of(pact, "left")[first_state(pact)[0]])
        # A change of b that was asked back may have been answered already, so one back to 0 comes ahead of any frame.
        self.assertEqual(half_of(pact, "right")[first_state(pact)[1]], [
            ("back",), ("set", "a", 1), ("set", "b", 0), ("set", "b", 1)])


if __name__ == "__main__":
    unittest.main()
