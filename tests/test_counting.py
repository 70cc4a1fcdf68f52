"""[1], [2], [11], [19] Counting weavings."""

import itertools
import unittest
from unittest import mock

import stepping
from answeredsettings import counting, spaces
from answeredsettings.boards import Board
from answeredsettings.counting import count_shortest, count_weavings, shortest_weavings
from answeredsettings.ends import End
from answeredsettings.errors import BadArgument, BadNumber, TooMany
from answeredsettings.machine import played
from answeredsettings.pacts import Pact
from answeredsettings.search import can_come, fewest_moves, reached, states
from answeredsettings.states import first_state
from graphs import PACTS, each, graph_of
from samples import FAR_STATES, ODD, Picky, crowded, example, one_way, room, size, small_pacts, two_at_one, two_way, weaving, wide


def all_weavings(pact, length):
    """All weavings with so many moves, one by one, played by machines with all frames in the lanes."""
    found = [[]]
    for _ in range(length):
        found = [moves + [move] for moves in found for move in played(pact, moves).moves()]
    return found


def states_behind(pact, length):
    """All states, with all frames in the lanes, behind so many moves."""
    layer = {stepping.start(pact): True}
    for _ in range(length):
        layer = {row[1]: True for state in layer for row in stepping.steps(pact, state, 99)}
    return list(layer)


def walks_to(rows, depth, goal):
    """All shortest weavings to a state, told backwards from it."""
    before = {}
    for state in rows:
        for move, behind, _ in rows[state]:
            if depth[behind] == depth[state] + 1:
                before.setdefault(behind, []).append((state, move))
    found = [(goal, [])]
    for _ in range(depth[goal]):
        found = [(state, [move] + moves) for one, moves in found for state, move in before[one]]
    return [moves for _, moves in found]


class CountTest(unittest.TestCase):
    def test_by_hand(self):
        self.assertEqual(count_weavings(example(), 0), 1)
        # The left end sets, the right one sends a frame 0 or 1.
        self.assertEqual(count_weavings(example(), 1), 3)
        # Behind the set: the right end hears it or sends; behind a frame: set, frame 0, frame 1, hearing.
        self.assertEqual(count_weavings(example(), 2), 3 + 4 + 4)

    def test_no_moves(self):
        pact = Pact(End({}, {}, {}, 1), End({}, {}, {}, 1))
        self.assertEqual([count_weavings(pact, length) for length in range(9)], [1] + [0] * 8)

    def test_weavings_that_end(self):
        pact = one_way(size([(1, 2)]), "heard", {"back": []}, {"answer": [], "frame": []})
        self.assertEqual([count_weavings(pact, length) for length in range(5)], [1, 1, 1, 0, 0])

    def test_one_by_one(self):
        for name, pact in small_pacts().items():
            for length in range(9):
                found = all_weavings(pact, length)
                self.assertEqual(count_weavings(pact, length), len(found), (name, length))
                if len(found) > 150:
                    break

    def test_all_lengths(self):
        """The states behind each number of moves, and over how many ways."""
        for pact in (example(), one_way(room(), "answered")):
            layer = {stepping.start(pact): 1}
            for length in range(9):
                self.assertEqual(count_weavings(pact, length), sum(layer.values()))
                behind = {}
                for state, many in layer.items():
                    for row in stepping.steps(pact, state, 99):
                        behind[row[1]] = behind.get(row[1], 0) + many
                layer = behind

    def test_any_number_of_frames_under_way(self):
        """Frames alone: each one sent and heard in time, as brackets that may stay open."""
        pact = one_way(size([], start=0), "heard")
        self.assertEqual([count_weavings(pact, length) for length in range(9)], [1, 1, 2, 3, 6, 10, 20, 35, 70])

    def test_no_lengths(self):
        for value in ODD + [9, -1, 10 ** 9, "3", (3,), Picky()]:
            if value.__class__ is int and 0 <= value <= 8:
                self.assertGreater(count_weavings(example(), value), 0)
                continue
            for pact in (example(), crowded()):
                with self.assertRaises(BadNumber) as told:
                    count_weavings(pact, value)
                self.assertIs(told.exception.value, value)

    def test_too_many(self):
        with self.assertRaises(TooMany) as told:
            count_weavings(crowded(), 8)
        self.assertEqual(told.exception.limit, 30000)
        # There are far more than 30000 watched states, but few states behind few moves.
        self.assertEqual(count_weavings(crowded(), 2), len(all_weavings(crowded(), 2)))

    def test_states_behind_each_number_of_moves_are_counted(self):
        pact = one_way(room([], start=1), "heard", {"done": []})
        many = [len(states_behind(pact, length)) for length in range(9)]
        self.assertEqual(many, [1, 1, 1, 0, 0, 0, 0, 0, 0])
        for pact in (example(), two_at_one()):
            for length in (1, 3, 4):
                greatest = max(len(states_behind(pact, many)) for many in range(length + 1))
                with mock.patch.object(counting, "LIMIT", greatest):
                    count_weavings(pact, length)
                with mock.patch.object(counting, "LIMIT", greatest - 1):
                    self.assertRaises(TooMany, count_weavings, pact, length)

    def test_a_number_of_moves_ahead_of_the_last_counts_too(self):
        """There are fewer states behind three moves than behind two."""
        pact = one_way(size([(1, 2), (1, 0)]), "heard", {"back": [], "set": [(0, 0)]}, {"frame": [], "answer": []})
        self.assertEqual([len(states_behind(pact, length)) for length in range(4)], [1, 2, 2, 0])
        with mock.patch.object(counting, "LIMIT", 1):
            self.assertRaises(TooMany, count_weavings, pact, 3)
        with mock.patch.object(counting, "LIMIT", 2):
            self.assertEqual(count_weavings(pact, 3), 0)


class ShortestTest(unittest.TestCase):
    def test_by_hand(self):
        pact = example()
        self.assertEqual(count_shortest(pact, first_state(pact)), 1)
        self.assertEqual(list(shortest_weavings(pact, first_state(pact))), [[]])
        state = played(pact, weaving("left set a 2; right frame a 0")).state
        told = [weaving("left set a 2; right frame a 0"), weaving("right frame a 0; left set a 2")]
        self.assertEqual((count_shortest(pact, state), list(shortest_weavings(pact, state))), (2, told))

    def test_watched_states_alone_between(self):
        """A frame is heard ahead of the next one, though a machine could send both first."""
        pact = one_way(room([], start=2), "heard")
        left = End({"a": size([]), "b": room([], start=2)}, {}, {}, 1)
        both = Pact(left, End({}, {"a": "heard", "b": "heard"}, {}, 1))
        state = played(pact, weaving("right frame a 0; right frame a 0; left hear")).state
        self.assertEqual(count_shortest(pact, state), 2)
        state = played(both, weaving("right frame b 0; right frame a 1")).state
        self.assertEqual(count_shortest(both, state), 1)

    def test_told_backwards(self):
        for name, pact, rows, depth in each():
            known = list(rows)
            for state in known[::1 + len(known) // 5] + known[-1:]:
                with self.subTest(name=name, state=state):
                    many = count_shortest(pact, state)
                    if many > 3000:
                        continue
                    found = walks_to(rows, depth, state)
                    told = list(shortest_weavings(pact, state))
                    self.assertEqual(many, len(found))
                    self.assertEqual(told, sorted(found, key=str))
                    self.assertEqual({len(moves) for moves in told}, {fewest_moves(pact, state)})

    def test_each_is_played_by_a_machine(self):
        pact = PACTS["two ways"]
        known = list(graph_of("two ways"))
        for moves in shortest_weavings(pact, known[400]):
            self.assertEqual(played(pact, moves).state, known[400])

    def test_all_states_of_the_example(self):
        for state in states(example()):
            told = list(shortest_weavings(example(), state))
            self.assertEqual(len(told), count_shortest(example(), state))
            self.assertEqual(told, sorted(told, key=str))

    def test_the_generator_tells_one_after_another(self):
        """A state to which very many weavings lead; the first ones are told all the same."""
        pact = wide()
        state = list(reached(Board(pact)))[-1]
        self.assertGreater(count_shortest(pact, state), 10 ** 5)
        told = list(itertools.islice(shortest_weavings(pact, state), 5))
        self.assertEqual(told, sorted(told, key=str))
        self.assertEqual(len({str(moves) for moves in told}), 5)

    def test_values_that_cannot_be_come_to(self):
        for value in ODD + FAR_STATES + [first_state(two_way()), Picky(), (None,) * 4]:
            self.assertEqual(count_shortest(example(), value), 0)
            self.assertEqual(list(shortest_weavings(example(), value)), [])
        state = played(example(), weaving("right frame a 1; right frame a 1")).state
        self.assertFalse(can_come(example(), state))
        self.assertEqual((count_shortest(example(), state), list(shortest_weavings(example(), state))), (0, []))

    def test_too_many(self):
        pact = crowded()
        start = first_state(pact)
        with self.assertRaises(TooMany) as told:
            count_shortest(pact, start)
        self.assertEqual(told.exception.limit, 30000)
        weavings = shortest_weavings(pact, start)
        self.assertRaises(TooMany, next, weavings)

    def test_watched_states_are_counted(self):
        start = first_state(example())
        with mock.patch.object(spaces, "LIMIT", 35):
            self.assertEqual((count_shortest(example(), start), list(shortest_weavings(example(), start))), (1, [[]]))
        with mock.patch.object(spaces, "LIMIT", 34):
            self.assertRaises(TooMany, count_shortest, example(), start)
            self.assertRaises(TooMany, list, shortest_weavings(example(), start))

    def test_lists_belong_to_the_caller(self):
        pact = example()
        state = played(pact, weaving("left set a 2; right hear; right answer")).state
        for one in states(pact):
            told = []
            for moves in shortest_weavings(pact, one):
                told.append(list(moves))
                moves.clear()
            self.assertEqual(told, list(shortest_weavings(pact, one)))
        self.assertEqual(count_shortest(pact, state), 1)


class CallsTest(unittest.TestCase):
    def test_values_that_are_no_pact(self):
        for value in ODD + [example().left]:
            for call in (lambda: count_weavings(value, None), lambda: count_weavings(value, 1), lambda: count_shortest(value, None),
                         lambda: next(shortest_weavings(value, None))):
                with self.assertRaises(BadArgument) as told:
                    call()
                self.assertIs(told.exception.value, value)

    def test_a_generator_raises_when_its_first_value_is_asked_for(self):
        weavings = shortest_weavings(None, None)
        self.assertRaises(BadArgument, next, weavings)

    def test_names_of_the_parameters(self):
        pact = example()
        start = first_state(pact)
        self.assertEqual(count_weavings(length=1, pact=pact), 3)
        self.assertEqual(count_shortest(state=start, pact=pact), 1)
        self.assertEqual(list(shortest_weavings(state=start, pact=pact)), [[]])

    def test_ends_turned_about(self):
        pact = example()
        turned = Pact(pact.right, pact.left)
        for length in range(6):
            self.assertEqual(count_weavings(turned, length), count_weavings(pact, length))
        for state in states(pact):
            self.assertEqual(count_shortest(turned, (state[1], state[0], state[3], state[2])), count_shortest(pact, state))

    def test_wider_rules_bring_more_weavings(self):
        tight = one_way(size(), "heard", {"back": []}, {"frame": [(0, 0)]})
        for length in range(3, 7):
            self.assertLess(count_weavings(tight, length), count_weavings(example(), length))


if __name__ == "__main__":
    unittest.main()
