"""[1], [2], [11], [21] Where the frames to a room are."""

import unittest
from unittest import mock

import oracle
import stepping
from answeredsettings import spaces
from answeredsettings.ends import End
from answeredsettings.errors import BadArgument, BadName, TooMany
from answeredsettings.machine import Machine, played
from answeredsettings.pacts import NAMES, Pact
from answeredsettings.rooms import most_held, most_lost, room_places
from answeredsettings.search import states
from answeredsettings.verdicts import weaving_with
from graphs import each, walked
from samples import (
    ODD, crowded, example, many_watched, one_way, room, size, small_pacts, two_at_one, two_way, weaving, wide,
)

CALLS = (room_places, most_held, most_lost)


def rooms_of(pact):
    return [word for word in pact.words() if pact.setting(word).kind == "room"]


def placed(pact, word, state):
    """Where the frames to a room are in a state, told by the second stepping."""
    owner = pact.owner(word)
    maker = stepping.other(owner)
    records = {name: stepping.Record(pact, name, state[at]) for at, name in enumerate(NAMES)}
    lanes = {"right": state[2], "left": state[3]}
    held, credit = records[owner].held[word], records[maker].credit[word]
    coming = sum(letter == ("frame", word, 0) for letter in lanes[owner])
    going = sum(letter == ("done", word) for letter in lanes[maker])
    return (held, coming, going, credit - held - coming - going)


def bare_graph(pact):
    """All states with no frame to a size or a table in the lanes, with the fewest moves to them."""
    return stepping.depths(stepping.graph(pact, most=0), stepping.start(pact))


class RoomsTest(unittest.TestCase):
    def test_a_room_that_does_not_change(self):
        pact = one_way(room([]), "heard")
        self.assertEqual(room_places(pact, "a"), [(0, 0, 0, 0), (0, 0, 1, 0), (0, 1, 0, 0), (1, 0, 0, 0)])
        self.assertEqual(most_held(pact, "a"), (1, weaving("right frame a 0; left hear")))
        self.assertEqual(most_lost(pact, "a"), (0, []))

    def test_a_room_of_none(self):
        pact = one_way(room([], start=0), "heard")
        self.assertEqual(room_places(pact, "a"), [(0, 0, 0, 0)])
        self.assertEqual(most_held(pact, "a"), (0, []))
        self.assertEqual(most_lost(pact, "a"), (0, []))

    def test_a_frame_that_passes_is_lost(self):
        """The room is made less while a frame is under way, and judged by this at once."""
        pact = one_way(room([(1, 0)], "sent", 2), "heard", {"back": []})
        self.assertEqual(most_lost(pact, "a")[0], 1)
        machine = played(pact, most_lost(pact, "a")[1])
        self.assertEqual([verdict[3] for verdict in machine.verdicts()], ["passed"])
        self.assertEqual(machine.local("right")[4], (1,))
        self.assertEqual(len(most_lost(pact, "a")[1]), 3)
        self.assertIn((0, 0, 0, 1), room_places(pact, "a"))
        self.assertEqual(most_held(pact, "a"), (1, weaving("right frame a 0; left hear")))

    def test_the_lost_ones_never_come_back(self):
        pact = one_way(room([(1, 0), (0, 1)], "sent", 2), "heard", {"back": []})
        for (held, coming, going, lost), (move, behind, _) in (
            (placed(pact, "a", state), row)
            for state, rows in stepping.graph(pact).items() for row in rows
        ):
            self.assertGreaterEqual(placed(pact, "a", behind)[3], lost, move)

    def test_places_of_each_size_are_all_counted(self):
        """With frames under way while the room falls, from each size."""
        for many in (2, 3, 4):
            pact = one_way(room([(many - 1, 0)], "sent", many, many - 1), "heard", {"back": []})
            self.assertEqual(most_held(pact, "a")[0], many - 1)
            self.assertEqual(most_lost(pact, "a")[0], many - 1)
            self.assertEqual({sum(places) for places in room_places(pact, "a")}, set(range(many)))

    def test_frames_that_passed(self):
        """Lost are as many as frames that passed the room."""
        pact = one_way(room([(2, 1), (1, 0)], "sent", 3, 2), "heard", {"back": []})
        for number in (1, 2, 3):
            for judged in (0, 1, 2):
                way = weaving_with(pact, ("a", number, judged, "passed")) if number > judged else None
                if way is not None:
                    state = played(pact, way).state
                    passed = sum(verdict[3] == "passed" for verdict in played(pact, way).verdicts())
                    self.assertEqual(placed(pact, "a", state)[3], passed)
        many, way = most_lost(pact, "a")
        self.assertEqual(sum(verdict[3] == "passed" for verdict in played(pact, way).verdicts()), many)

    def test_both_ends_own_a_room(self):
        left = End({"a": room([(1, 0)], "sent", 2)}, {"b": "heard"}, {"back": []}, 1)
        pact = Pact(left, End({"b": room([], many=3, start=2)}, {"a": "heard"}, {"back": []}, 1))
        self.assertEqual(most_held(pact, "a")[0], 1)
        self.assertEqual(most_held(pact, "b"), (2, weaving("left frame b 0; left frame b 0; right hear; right hear")))
        self.assertEqual((most_lost(pact, "a")[0], most_lost(pact, "b")[0]), (1, 0))
        self.assertEqual(len(room_places(pact, "b")), 10)

    def test_what_the_second_stepping_tells(self):
        for label, pact, rows, depth in each():
            for word in rooms_of(pact):
                with self.subTest(pact=label, word=word):
                    found = {}
                    for state in rows:
                        found.setdefault(placed(pact, word, state), []).append(depth[state])
                    self.assertEqual(room_places(pact, word), sorted(found))
                    for call, part in ((most_held, 0), (most_lost, 3)):
                        most, way = call(pact, word)
                        self.assertEqual(most, max(places[part] for places in found))
                        self.assertEqual(len(way), min(min(found[places]) for places in found if places[part] == most))
                        self.assertEqual(placed(pact, word, walked(pact, way)[0])[part], most)
                        self.assertEqual(call(pact, word), (most, way))

    def test_what_the_player_tells(self):
        """Frames sent, kept, done and given back, told by records of them."""
        for pact in (one_way(room([(1, 0), (0, 1)], "sent", 2), "heard", {"back": []}), one_way(room([(1, 2)]), "heard")):
            found, layer, known = set(), [oracle.World(pact)], set()
            while layer:
                behind = []
                for world in layer:
                    sent, kept = world.sent_frames["a"], world.kept_frames["a"]
                    done, given = world.done_frames["a"], world.given_back["a"]
                    coming = sum(letter[0] == "frame" for letter, _ in world.lanes["left"])
                    found.add((kept - done, coming, done - given, sent - coming - kept))
                    for move in oracle.ordered_moves(world):
                        other = world.copied()
                        other.make(move)
                        if other.state() not in known:
                            known.add(other.state())
                            behind.append(other)
                layer = behind
            self.assertEqual(room_places(pact, "a"), sorted(found))

    def test_ends_turned_about(self):
        for pact in list(small_pacts().values()):
            for word in rooms_of(pact):
                turned = Pact(pact.right, pact.left)
                self.assertEqual(room_places(turned, word), room_places(pact, word))
                self.assertEqual(most_lost(turned, word)[0], most_lost(pact, word)[0])

    def test_a_machine_with_frames_in_both_lanes(self):
        pact = two_way()
        machine = Machine(pact)
        machine.play(weaving(
            "right set b 1; left hear; left frame b 0; right frame a 0; right frame a 1; right hear; left answer"))
        self.assertIn(placed(pact, "b", machine.state), room_places(pact, "b"))

    def test_a_great_pact(self):
        self.assertEqual(most_held(wide(), "b")[0], 2)
        found = {placed(wide(), "b", state) for state in states(wide())}
        self.assertEqual(room_places(wide(), "b"), sorted(found))


class CallsTest(unittest.TestCase):
    def test_values_that_are_no_pact(self):
        for value in ODD + [example().left]:
            for call in CALLS:
                for word in ("a", None):
                    with self.assertRaises(BadArgument) as told:
                        call(value, word)
                    self.assertIs(told.exception.value, value)

    def test_values_that_are_no_word_of_a_room(self):
        for call in CALLS:
            for value in ODD + ["left", "e"]:
                # A pact with too many states: that is told last.
                with self.assertRaises(BadName) as told:
                    call(crowded(), value)
                self.assertIs(told.exception.value, value)
            # Words of a size and of a table.
            self.assertRaises(BadName, call, two_way(), "a")
            self.assertRaises(BadName, call, example(), "a")
            self.assertRaises(BadName, call, two_at_one(), "b")
            self.assertRaises(BadName, call, crowded(), "a")
            self.assertRaises(BadName, call, crowded(), "c")

    def test_too_many(self):
        for call in CALLS:
            with self.assertRaises(TooMany) as told:
                call(crowded(), "b")
            self.assertEqual(told.exception.limit, 30000)

    def test_bare_states_are_counted(self):
        pact = two_way()
        many = len(bare_graph(pact))
        self.assertLess(many, len(states(pact)))
        for call in CALLS:
            with mock.patch.object(spaces, "LIMIT", many):
                call(pact, "b")
            with mock.patch.object(spaces, "LIMIT", many - 1):
                self.assertRaises(TooMany, call, pact, "b")
            call(many_watched(), "b")
        self.assertRaises(TooMany, states, many_watched())

    def test_names_of_the_parameters(self):
        pact = one_way(room(), "heard")
        for call in CALLS:
            self.assertEqual(call(word="a", pact=pact), call(pact, "a"))

    def test_lists_belong_to_the_caller(self):
        pact = one_way(room([(1, 0)], "sent", 2), "heard")
        told = room_places(pact, "a")
        room_places(pact, "a").clear()
        self.assertEqual(room_places(pact, "a"), told)
        for call in (most_held, most_lost):
            told = call(pact, "a")
            self.assertIsInstance(told, tuple)
            call(pact, "a")[1].clear()
            self.assertEqual(call(pact, "a"), told)

    def test_a_size_beside_the_room(self):
        left = End({"a": room([(1, 0)], "sent", 2), "c": size([], many=2)}, {}, {"back": []}, 1)
        pact = Pact(left, End({}, {"a": "heard", "c": "heard"}, {}, 1))
        alone = one_way(room([(1, 0)], "sent", 2), "heard", {"back": []})
        self.assertEqual(room_places(pact, "a"), room_places(alone, "a"))
        self.assertEqual(most_lost(pact, "a")[0], 1)


if __name__ == "__main__":
    unittest.main()
