"""[1], [2], [11], [16] Marks: the places by which frames are made."""

import unittest
from unittest import mock

import oracle
import stepping
from answeredsettings import spaces
from answeredsettings.ends import End
from answeredsettings.errors import BadArgument, BadName, TooMany
from answeredsettings.machine import played
from answeredsettings.marks import least_marks, place_weaving, places, spread
from answeredsettings.pacts import Pact
from answeredsettings.search import states
from samples import ODD, Picky, crowded, example, one_way, room, size, small_pacts, table, two_at_one, two_way, weaving, wide

BINARY = [(0, 1), (1, 0)]


def told(pact, word="a"):
    return (places(pact, word), spread(pact, word), least_marks(pact, word))


def zero_and_two():
    """Frames may be made with nothing owed, or with two changes owed."""
    return one_way(size(BINARY, "open", 2, 0), "heard", {"back": []}, {"frame": [(0, 0), (0, 2)]}, most=2)


class PlacesTest(unittest.TestCase):
    def test_example(self):
        self.assertEqual(told(example()), ([0, 1], 1, 2))
        self.assertEqual(place_weaving(example(), "a", 0), weaving("right frame a 0; left hear"))
        moves = weaving("left set a 2; right hear; right frame a 0; left hear")
        self.assertEqual(len(place_weaving(example(), "a", 1)), len(moves))
        self.assertEqual(place_weaving(example(), "a", 1)[:2], moves[:2])

    def test_use_answered(self):
        self.assertEqual(told(one_way(size(), "answered", {"back": []})), ([0], 1, 1))
        self.assertEqual(told(one_way(table(BINARY, "sent", 2, 0), "answered", most=3)), ([0], 3, 1))

    def test_no_changes(self):
        self.assertEqual(told(one_way(size([]), "heard")), ([0], 0, 1))

    def test_no_frame_is_ever_heard(self):
        pact = one_way(size(), "heard", {}, {"frame": []})
        self.assertEqual(told(pact), ([], None, None))
        self.assertEqual([place_weaving(pact, "a", place) for place in range(5)], [None] * 5)
        never = one_way(size(), "heard", {}, {"frame": [(1, 0)]})
        self.assertEqual(told(never), ([], None, None))

    def test_more_changes_open(self):
        for most in (1, 2, 3):
            for make in (size, table):
                pact = one_way(make(BINARY, "answered", 2, 0), "heard", {"back": []}, most=most)
                self.assertEqual(told(pact), (list(range(most + 1)), most, most + 1))
                for place in range(5):
                    moves = place_weaving(pact, "a", place)
                    # So many changes sent and heard, one frame sent and heard.
                    self.assertEqual(moves if moves is None else len(moves), 2 * place + 2 if place <= most else None)

    def test_places_0_and_2_alone(self):
        """Two places, and yet two marks do not do: 0 and 2 are alike modulo 2."""
        self.assertEqual(told(zero_and_two()), ([0, 2], 2, 3))

    def test_place_2_alone(self):
        pact = one_way(size(BINARY, "open", 2, 0), "heard", {"back": []}, {"frame": [(0, 2)]}, most=2)
        self.assertEqual(told(pact), ([2], 0, 1))
        self.assertEqual(place_weaving(pact, "a", 0), None)
        self.assertEqual(len(place_weaving(pact, "a", 2)), 6)

    def test_local_states_of_the_owner_tell_places_apart(self):
        """As the owner hears no frame of place 0 while a change is open, it knows the place from its state alone."""
        rules = {"frame": [(0, 1)], "answer": [(0, 1)]}
        pact = one_way(size(BINARY, "open", 2, 0), "heard", {"back": []}, rules)
        self.assertEqual(told(pact), ([1], 0, 1))
        free = one_way(size(BINARY, "open", 2, 0), "heard", {"back": []})
        self.assertEqual(told(free), ([0, 1], 1, 2))

    def test_places_count_the_changes_of_all_settings(self):
        """The place is that among all owed changes; the spread counts those of this setting only."""
        owner = End({"a": size(BINARY, "open", 2, 0), "b": table(BINARY, "sent", 2, 0)}, {}, {"back": []}, 2)
        pact = Pact(owner, End({}, {"a": "heard", "b": "answered"}, {}, 1))
        self.assertEqual(told(pact, "a"), ([0, 1, 2], 2, 3))
        self.assertEqual(told(pact, "b"), ([0], 2, 1))
        both = Pact(owner, End({}, {"a": "heard", "b": "heard"}, {}, 1))
        self.assertEqual(told(both, "b"), ([0, 1, 2], 2, 3))

    def test_a_change_of_another_setting_behind(self):
        owner = End({"a": size([(0, 1)], "open", 2, 0), "b": table([(0, 1)], "sent", 2, 0)}, {}, {"back": []}, 2)
        pact = Pact(owner, End({}, {"a": "heard", "b": "heard"}, {}, 1))
        # Each setting changes once at most, so one change alone can stand open behind a place.
        self.assertEqual(told(pact, "a"), ([0, 1, 2], 1, 3))
        self.assertEqual(spread(pact, "b"), 1)

    def test_a_refused_change_is_no_place(self):
        """Frames are made only behind the asking back, by what was in use ahead of it."""
        rules = {"answer": [(0, 1)], "frame": [(0, 1)]}
        pact = one_way(size([(0, 1)], "open", 2, 0), "heard", {"set": [(0, 0)]}, rules)
        self.assertEqual(places(pact, "a"), [0, 1])
        moves = place_weaving(pact, "a", 0)
        self.assertEqual(len(moves), 6)
        self.assertEqual(set(moves[:4]), set(weaving("left set a 1; left back; right hear; right hear")))
        self.assertEqual(spread(pact, "a"), 1)

    def test_an_asked_back_change_stays_open(self):
        pact = one_way(size([(0, 1)], "open", 2, 0), "heard", {}, {"answer": []})
        self.assertEqual(told(pact), ([0, 1], 1, 2))

    def test_rooms_beside(self):
        left = End({"a": size(BINARY, "open", 2, 0), "b": room([], start=2)}, {}, {"back": []}, 1)
        pact = Pact(left, End({}, {"a": "heard", "b": "heard"}, {}, 1))
        self.assertEqual(told(pact), ([0, 1], 1, 2))

    def test_what_the_second_player_tells(self):
        for name, pact in small_pacts().items():
            for word in pact.words():
                if pact.setting(word).kind != "room":
                    with self.subTest(name=name, word=word):
                        self.assert_told(pact, word, oracle.hearings(pact, word))

    def assert_told(self, pact, word, known):
        self.assertEqual(places(pact, word), sorted(known.fewest))
        self.assertEqual(spread(pact, word), known.spread())
        self.assertEqual(least_marks(pact, word), known.least())
        for place in range(-1, 5):
            moves = place_weaving(pact, word, place)
            self.assertEqual(moves if moves is None else len(moves), known.fewest.get(place))
            self.assertEqual(place_weaving(pact, word, place), moves)
            if moves is not None:
                self.assert_place(pact, word, moves, place)

    def assert_place(self, pact, word, moves, place):
        """The last move of a weaving hears a frame with this place, told by the second player and by a machine."""
        world = oracle.World(pact)
        for move in moves[:-1]:
            world.make(move)
        letter, about = world.lanes[pact.owner(word)][0]
        self.assertEqual((letter[:2], world.rank(word, about)), (("frame", word), place))
        self.assertEqual(moves[-1], (pact.owner(word), ("hear",)))
        self.assertEqual(played(pact, moves).verdicts()[-1][0], word)
        state = stepping.start(pact)
        for move in moves:
            state, = [row[1] for row in stepping.steps(pact, state) if row[0] == move]

    def test_any_number_of_frames_under_way(self):
        """[1] With all frames in the lanes no other places are heard, and the marks tell them all the same."""
        for name, pact in small_pacts().items():
            if len(pact.words()) == 1 and pact.setting("a").kind != "room":
                known = oracle.hearings(pact, "a", 9, 7)
                least = least_marks(pact, "a")
                self.assertLessEqual(set(known.fewest), set(places(pact, "a")))
                if known.by_local:
                    self.assertLessEqual(known.spread(), spread(pact, "a"))
                for heard in known.by_local.values():
                    self.assertEqual(len({place % least for place in heard}), len(heard))

    def test_ends_turned_about(self):
        for pact in (example(), zero_and_two(), two_way()):
            turned = Pact(pact.right, pact.left)
            self.assertEqual(told(turned), told(pact))
            for place in range(3):
                moves, other = place_weaving(pact, "a", place), place_weaving(turned, "a", place)
                self.assertEqual(moves and len(moves), other and len(other))

    def test_wider_rules_bring_more_places(self):
        tight = one_way(size(BINARY, "open", 2, 0), "heard", {"back": []}, {"frame": [(0, 0)]}, most=2)
        self.assertEqual(told(tight), ([0], 2, 1))
        self.assertEqual(places(zero_and_two(), "a"), [0, 2])


class CallsTest(unittest.TestCase):
    def test_values_that_are_no_word(self):
        for value in ODD + ["e", "left", "aa"]:
            for pact in (example(), crowded()):
                self.assert_no_word(pact, value)
        self.assert_no_word(example(), "b")

    def test_words_of_rooms(self):
        self.assert_no_word(one_way(room(), "heard"), "a")
        self.assert_no_word(two_way(), "b")
        self.assert_no_word(crowded(), "b")
        self.assertEqual(places(two_way(), "a"), [0])

    def assert_no_word(self, pact, value):
        for call in (lambda: places(pact, value), lambda: spread(pact, value), lambda: least_marks(pact, value),
                     lambda: place_weaving(pact, value, 0), lambda: place_weaving(pact, value, None)):
            with self.assertRaises(BadName) as caught:
                call()
            self.assertIs(caught.exception.value, value)

    def test_any_value_as_a_place(self):
        for value in ODD + ["0", "1", 4, 7, (0,), [0], Picky()]:
            moves = place_weaving(example(), "a", value)
            if value.__class__ is int and value in (0, 1):
                self.assertIsNotNone(moves)
            else:
                self.assertIsNone(moves)

    def test_values_that_are_no_pact(self):
        for value in ODD + [example().left]:
            for call in (lambda: places(value, "a"), lambda: spread(value, None), lambda: least_marks(value, "a"),
                         lambda: place_weaving(value, None, None)):
                with self.assertRaises(BadArgument) as caught:
                    call()
                self.assertIs(caught.exception.value, value)

    def test_too_many(self):
        pact = crowded()
        for call in (lambda: places(pact, "a"), lambda: spread(pact, "c"), lambda: least_marks(pact, "d"),
                     lambda: place_weaving(pact, "a", 0), lambda: place_weaving(pact, "a", None)):
            with self.assertRaises(TooMany) as caught:
                call()
            self.assertEqual(caught.exception.limit, 30000)

    def test_states_with_the_place_are_counted(self):
        """A frame that was made ahead of an answer can have been made by 2 that was owed, or by 2 that was answered."""
        pact = one_way(size([(0, 1), (1, 0)], "open", 2, 0), "heard", {"back": []}, most=2)
        calls = [
            lambda: places(pact, "a"), lambda: spread(pact, "a"), lambda: least_marks(pact, "a"),
            lambda: place_weaving(pact, "a", 0), lambda: place_weaving(pact, "a", "none"),
        ]
        many = self.marked_states(pact)
        self.assertGreaterEqual(many, len(states(pact)))
        for call in calls:
            with mock.patch.object(spaces, "LIMIT", many):
                call()
            with mock.patch.object(spaces, "LIMIT", many - 1):
                self.assertRaises(TooMany, call)

    def marked_states(self, pact):
        """How many states with the place of the frame the second player meets."""
        known, layer = {oracle.marked(oracle.World(pact), "a")}, [oracle.World(pact)]
        while layer:
            behind = []
            for world in layer:
                for move in oracle.ordered_moves(world):
                    other = world.copied()
                    other.make(move)
                    if other.under_way() <= 1 and oracle.marked(other, "a") not in known:
                        known.add(oracle.marked(other, "a"))
                        behind.append(other)
            layer = behind
        return len(known)

    def test_a_great_pact(self):
        self.assertEqual(told(wide()), ([0], 1, 1))

    def test_names_of_the_parameters(self):
        pact = example()
        self.assertEqual(places(word="a", pact=pact), [0, 1])
        self.assertEqual((spread(word="a", pact=pact), least_marks(word="a", pact=pact)), (1, 2))
        self.assertEqual(len(place_weaving(place=1, word="a", pact=pact)), 4)

    def test_lists_belong_to_the_caller(self):
        places(example(), "a").clear()
        place_weaving(example(), "a", 1).clear()
        self.assertEqual((places(example(), "a"), len(place_weaving(example(), "a", 1))), ([0, 1], 4))

    def test_two_at_one(self):
        self.assertEqual(told(two_at_one(), "a"), ([0, 1, 2], 2, 3))
        self.assertEqual(told(two_at_one(), "b"), ([0], 2, 1))


if __name__ == "__main__":
    unittest.main()
