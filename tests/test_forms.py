"""[1], [2], [20] What rows of values tell, without a search."""

import itertools
import unittest
from unittest import mock

import stepping
from answeredsettings import spaces
from answeredsettings.ends import DEEDS, End
from answeredsettings.errors import BadArgument, BadName
from answeredsettings.forms import (
    fates_by_rows, is_plain, met_by_rows, never_takes_back, room_by_rows, rows_of,
)
from answeredsettings.machine import Machine
from answeredsettings.pacts import NAMES, Pact
from answeredsettings.rooms import most_held
from answeredsettings.settings import Setting
from answeredsettings.verdicts import verdicts
from samples import ODD, crowded, example, move, one_way, room, size, small_pacts, table, two_at_one, two_way

FATES = ["kept", "refused", "garbled", "passed"]
HOLDS = {"size": ["sent", "answered", "open"], "table": ["sent", "answered"], "room": ["sent", "answered", "open"]}
# Numbers of values, starts, changes and most open changes: with values that cannot be come to, and rows of one to four.
FORMS = [
    (2, 1, [(1, 0), (0, 1)], 1), (2, 0, [(0, 1)], 2), (3, 1, [(1, 2), (2, 0)], 1), (3, 2, [(2, 1), (1, 0)], 2),
    (3, 0, [(0, 1), (1, 2), (2, 0)], 2), (4, 3, [(3, 1), (1, 2)], 1), (4, 0, [], 3), (3, 0, [(1, 2), (2, 1)], 2),
    (2, 1, [(0, 1), (1, 0)], 3),
]


def plain_pacts():
    """Pacts with one plain setting: each sort, hold and use, for either owner in turn."""
    count = 0
    for kind, holds in HOLDS.items():
        for hold, use, (many, start, changes, most) in itertools.product(holds, ("heard", "answered"), FORMS):
            owner = End({"a": Setting(kind, many, start, changes, hold)}, {}, {"back": []}, most)
            maker = End({}, {"a": use}, {}, 1 + count % 3)
            count += 1
            yield Pact(owner, maker) if count % 2 else Pact(maker, owner)


def all_rows(setting, most):
    """All rows of values: all tuples are tried."""
    values = range(setting.size)
    near, known = {setting.start}, set()
    while near:
        known |= near
        near = {two for one, two in setting.changes() if one in known} - known
    found = [row for long in range(1, most + 2) for row in itertools.product(values, repeat=long)]
    return [row for row in found if row[0] in known and all(pair in setting.changes() for pair in zip(row, row[1:]))]


def all_met(setting, use, most):
    """All pairs that are met by rows, told from all tuples."""
    found = set()
    for row in all_rows(setting, most):
        judged = {"sent": row[-1], "answered": row[0], "open": max(row)}[setting.hold]
        found |= {(made, judged) for made in (row if use == "heard" else row[:1])}
    return sorted(found)


def pairs_and_fates(pact, word):
    """The pairs (made, judged) and the fates of all frames to a setting, told by the second stepping."""
    owner = pact.owner(word)
    maker = stepping.other(owner)
    layer = [(stepping.start(pact), ())]
    seen, pairs, fates = set(layer), set(), set()
    while layer:
        behind = []
        for state, made in layer:
            for (_, letter), other, verdict in stepping.steps(pact, state):
                told = made
                if letter[:2] == ("frame", word):
                    told += (stepping.Record(pact, maker, state[NAMES.index(maker)]).in_use(word),)
                elif verdict is not None and verdict[0] == word:
                    pairs.add((made[0], verdict[2]))
                    fates.add(verdict[3])
                    told = made[1:]
                if (other, told) not in seen:
                    seen.add((other, told))
                    behind.append((other, told))
        layer = behind
    return sorted(pairs), [fate for fate in FATES if fate in fates]


class RowsTest(unittest.TestCase):
    def test_example(self):
        pact = example()
        self.assertEqual(rows_of(pact, "a"), [(1,), (2,), (1, 2), (2, 1)])
        self.assertEqual(met_by_rows(pact, "a"), [(1, 1), (1, 2), (2, 1), (2, 2)])
        self.assertEqual(fates_by_rows(pact, "a"), ["kept", "refused"])
        self.assertEqual(room_by_rows(pact, "a"), 2)

    def test_rows_of_one_to_four_values(self):
        for most, longest in ((1, (0, 1)), (2, (0, 1, 2)), (3, (0, 1, 2, 0))):
            rows = rows_of(one_way(size([(2, 0), (0, 1), (1, 2)]), "heard", most=most), "a")
            self.assertEqual(rows[:3], [(0,), (1,), (2,)])
            self.assertEqual(len(rows), 3 * (most + 1))
            self.assertEqual(rows[-3], longest)

    def test_shorter_ones_first_and_then_ascending(self):
        pact = one_way(size([(1, 2), (1, 0), (0, 1)]), "heard", most=2)
        self.assertEqual(
            rows_of(pact, "a"),
            [(0,), (1,), (2,), (0, 1), (1, 0), (1, 2), (0, 1, 0), (0, 1, 2), (1, 0, 1)])

    def test_no_changes(self):
        self.assertEqual(rows_of(one_way(size([]), "heard", most=3), "a"), [(1,)])
        self.assertEqual(met_by_rows(one_way(size([]), "heard", most=3), "a"), [(1, 1)])

    def test_a_value_that_cannot_be_come_to(self):
        """From the start 1 no change leads to 0, and from 2 none leads on."""
        pact = one_way(table([(0, 1), (1, 2)], "sent"), "heard")
        self.assertEqual(rows_of(pact, "a"), [(1,), (2,), (1, 2)])
        self.assertEqual(rows_of(one_way(size([(0, 2), (2, 0)]), "heard", most=3), "a"), [(1,)])

    def test_a_row_is_no_longer_than_may_be_open(self):
        """What may be open hangs on the owner alone."""
        pact = Pact(End({"a": size()}, {}, {}, 1), End({}, {"a": "heard"}, {}, 3))
        self.assertEqual(max(map(len, rows_of(pact, "a"))), 2)

    def test_holds_and_uses(self):
        changes = [(0, 2), (2, 1)]
        met = {
            ("sent", "heard"): [(0, 0), (0, 1), (0, 2), (1, 1), (2, 1), (2, 2)],
            ("answered", "heard"): [(0, 0), (1, 0), (1, 1), (1, 2), (2, 0), (2, 2)],
            ("open", "heard"): [(0, 0), (0, 2), (1, 1), (1, 2), (2, 2)],
            ("sent", "answered"): [(0, 0), (0, 1), (0, 2), (1, 1), (2, 1), (2, 2)],
            ("answered", "answered"): [(0, 0), (1, 1), (2, 2)],
            ("open", "answered"): [(0, 0), (0, 2), (1, 1), (2, 2)],
        }
        for (hold, use), pairs in met.items():
            pact = one_way(size(changes, hold, start=0), use, most=2)
            self.assertEqual(met_by_rows(pact, "a"), pairs, (hold, use))

    def test_each_setting_of_a_pact_by_itself(self):
        pact = two_at_one()
        self.assertEqual(rows_of(pact, "a"), [(0,), (1,), (0, 1)])
        self.assertEqual(rows_of(pact, "b"), [(0,), (1,), (0, 1), (1, 0), (0, 1, 0), (1, 0, 1)])
        self.assertEqual(met_by_rows(pact, "b"), [(0, 0), (1, 1)])

    def test_all_tuples_tried(self):
        for pact in itertools.chain(plain_pacts(), small_pacts().values(), [crowded()]):
            for word in pact.words():
                setting, owner = pact.setting(word), pact.owner(word)
                most, use = pact.end(owner).most, pact.end(pact.other(owner)).use(word)
                self.assertEqual(rows_of(pact, word), all_rows(setting, most))
                self.assertEqual(met_by_rows(pact, word), all_met(setting, use, most))
                self.assertEqual(room_by_rows(pact, word), max(min(pair) for pair in all_met(setting, use, most)))


class FatesTest(unittest.TestCase):
    def test_sizes(self):
        self.assertEqual(fates_by_rows(one_way(size(), "answered"), "a"), ["kept"])
        self.assertEqual(fates_by_rows(one_way(size(hold="open"), "heard"), "a"), ["kept"])
        self.assertEqual(fates_by_rows(one_way(size(hold="sent"), "heard"), "a"), ["kept", "refused"])
        self.assertEqual(fates_by_rows(one_way(size([], start=0), "heard"), "a"), ["kept"])

    def test_tables(self):
        self.assertEqual(fates_by_rows(one_way(table(), "answered"), "a"), ["kept"])
        self.assertEqual(fates_by_rows(one_way(table(), "heard"), "a"), ["kept", "garbled"])

    def test_rooms(self):
        self.assertEqual(fates_by_rows(one_way(room(), "answered"), "a"), ["kept"])
        self.assertEqual(fates_by_rows(one_way(room(), "heard"), "a"), ["kept", "passed"])
        # Into a room of none no frame is sent, and by a room of none each one passes.
        self.assertEqual(fates_by_rows(one_way(room([], start=0), "heard"), "a"), [])
        pact = one_way(room([(0, 1)], "answered", 2, 0), "heard")
        self.assertEqual(met_by_rows(pact, "a"), [(0, 0), (1, 0), (1, 1)])
        self.assertEqual(fates_by_rows(pact, "a"), ["kept", "passed"])

    def test_room_by_rows(self):
        self.assertEqual(room_by_rows(one_way(room([], start=0), "heard"), "a"), 0)
        self.assertEqual(room_by_rows(one_way(room(), "heard"), "a"), 2)
        self.assertEqual(room_by_rows(one_way(table(), "heard"), "a"), 2)
        self.assertEqual(room_by_rows(one_way(size([(1, 3)], many=4), "answered"), "a"), 3)
        # Made by 1 it is judged by 0, and made by 0 by 0.
        self.assertEqual(room_by_rows(one_way(size([(1, 0)], "sent", 2), "answered"), "a"), 1)

    def test_all_pairs_tried(self):
        for pact in plain_pacts():
            word, = pact.words()
            kind = pact.setting(word).kind
            met = met_by_rows(pact, word)
            found = {
                "kept": kind == "size" or any(
                    one == other if kind == "table" else one > 0 < other for one, other in met),
                "refused": kind == "size" and any(one > other for one, other in met),
                "garbled": kind == "table" and any(one != other for one, other in met),
                "passed": kind == "room" and any(one > other for one, other in met),
            }
            self.assertEqual(fates_by_rows(pact, word), [fate for fate in FATES if found[fate]])


class SecondSteppingTest(unittest.TestCase):
    def test_plain_settings(self):
        """All pairs that are met by rows occur, for a room those whose first value is above 0, and no other ones."""
        for pact in plain_pacts():
            self.assertIs(is_plain(pact, "a"), True)
            pairs, fates = pairs_and_fates(pact, "a")
            met = met_by_rows(pact, "a")
            if pact.setting("a").kind == "room":
                met = [pair for pair in met if pair[0] > 0]
                self.assertEqual(room_by_rows(pact, "a"), most_held(pact, "a")[0])
            self.assertEqual(pairs, met)
            self.assertEqual(fates, fates_by_rows(pact, "a"))
            self.assertEqual({verdict[3] for verdict in verdicts(pact, "a")}, set(fates))

    def test_settings_whose_owner_takes_nothing_back(self):
        """Each frame is made by one value and judged by another one of a pair that is met by rows."""
        for label, pact in small_pacts().items():
            for name in NAMES:
                pact = pact.with_end(name, pact.end(name).with_pairs("back", []))
            for word in pact.words():
                with self.subTest(pact=label, word=word):
                    pairs, fates = pairs_and_fates(pact, word)
                    self.assertLessEqual(set(pairs), set(met_by_rows(pact, word)))
                    self.assertLessEqual(set(fates), set(fates_by_rows(pact, word)))

    def test_taking_back_meets_other_pairs(self):
        """An answer to a change that was asked back makes it the base, so rows do not tell of such an end."""
        pact = one_way(size([(1, 2), (1, 0)], "sent"), "heard", most=2)
        pairs, _ = pairs_and_fates(pact, "a")
        self.assertIn((2, 0), pairs)
        self.assertNotIn((2, 0), met_by_rows(pact, "a"))
        self.assertIs(is_plain(pact, "a"), False)

    def test_a_machine_meets_a_pair(self):
        pact = example()
        machine = Machine(pact)
        machine.play([move(text) for text in ("left set a 2", "right hear", "right frame a 2")])
        self.assertEqual(machine(move("left hear"))[1:3], (2, 1))
        self.assertIn((2, 1), met_by_rows(pact, "a"))


class PlainTest(unittest.TestCase):
    def test_example(self):
        self.assertIs(is_plain(example(), "a"), True)
        self.assertIs(never_takes_back(example(), "left"), True)
        self.assertIs(never_takes_back(example(), "right"), False)

    def test_never_takes_back(self):
        for pairs, told in (([], True), (None, False), ([(0, 0)], False), ([(1, 0)], False)):
            pact = example().with_end("left", example().left.with_pairs("back", pairs))
            self.assertIs(never_takes_back(pact, "left"), told)
            pact = example().with_end("right", example().right.with_pairs("back", pairs))
            self.assertIs(never_takes_back(pact, "right"), told)

    def test_another_setting(self):
        owner = End({"a": size(), "b": size()}, {}, {"back": []}, 1)
        pact = Pact(owner, End({}, {"a": "heard", "b": "heard"}, {}, 1))
        self.assertIs(is_plain(pact, "a"), False)
        self.assertIs(is_plain(pact, "b"), False)
        pact = Pact(End({"a": size()}, {"b": "heard"}, {"back": []}, 1), End({"b": size()}, {"a": "heard"}, {"back": []}, 1))
        self.assertIs(is_plain(pact, "a"), False)
        self.assertIs(is_plain(two_way(), "b"), False)

    def test_an_owner_that_takes_back(self):
        for rules in ({}, {"back": [(0, 0)]}, {"back": [(1, 0), (1, 1)]}):
            self.assertIs(is_plain(one_way(size(), "heard", rules), "a"), False)
            # What the maker may ask back does not matter.
            self.assertIs(is_plain(one_way(size(), "heard", {"back": []}, rules), "a"), True)

    def test_other_rules(self):
        every = [(opened, owed) for opened in range(4) for owed in range(4)]
        for deed in DEEDS:
            for pairs in ([], [(0, 0)], every):
                if deed != "back":
                    # A rule that lets all pairs is a rule all the same.
                    self.assertIs(is_plain(one_way(room(), "heard", {"back": [], deed: pairs}), "a"), False)
                    self.assertIs(is_plain(one_way(room(), "heard", {"back": []}, {deed: pairs}), "a"), False)

    def test_the_right_end_as_owner(self):
        turned = Pact(example().right, example().left)
        self.assertIs(is_plain(turned, "a"), True)
        self.assertEqual(rows_of(turned, "a"), rows_of(example(), "a"))
        self.assertIs(never_takes_back(turned, "right"), True)


class CallsTest(unittest.TestCase):
    CALLS = (rows_of, met_by_rows, fates_by_rows, room_by_rows, is_plain)

    def test_values_that_are_no_pact(self):
        for value in ODD + [example().left, size()]:
            for call in self.CALLS + (never_takes_back,):
                for other in ("a", "left", None):
                    with self.assertRaises(BadArgument) as told:
                        call(value, other)
                    self.assertIs(told.exception.value, value)

    def test_values_that_are_no_word(self):
        for value in ODD + ["left", "b", "aa"]:
            for call in self.CALLS:
                with self.assertRaises(BadName) as told:
                    call(example(), value)
                self.assertIs(told.exception.value, value)

    def test_values_that_are_no_name(self):
        for value in ODD + ["a", "middle"]:
            with self.assertRaises(BadName) as told:
                never_takes_back(example(), value)
            self.assertIs(told.exception.value, value)

    def test_names_of_the_parameters(self):
        for call in self.CALLS:
            self.assertEqual(call(word="a", pact=example()), call(example(), "a"))
        self.assertIs(never_takes_back(name="left", pact=example()), True)

    def test_no_states_are_searched_for(self):
        pact = crowded()
        with mock.patch.object(spaces, "LIMIT", 0):
            for call in self.CALLS:
                for word in pact.words():
                    call(pact, word)
            self.assertIs(never_takes_back(pact, "left"), False)

    def test_lists_belong_to_the_caller(self):
        pact = example()
        for call in (rows_of, met_by_rows, fates_by_rows):
            told = call(pact, "a")
            call(pact, "a").clear()
            self.assertEqual(call(pact, "a"), told)
            self.assertIsInstance(told, list)


if __name__ == "__main__":
    unittest.main()
