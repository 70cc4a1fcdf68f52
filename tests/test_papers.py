"""[1], [2], [11], [26] Wait papers."""

import random
import unittest
from unittest import mock

import stepping
from answeredsettings import spaces
from answeredsettings.ends import End
from answeredsettings.errors import BadArgument, BadName, BadNumber, TooMany
from answeredsettings.pacts import NAMES, Pact
from answeredsettings.papers import is_wait_paper, wait_paper
from answeredsettings.search import states
from answeredsettings.states import first_state
from answeredsettings.waits import fewest_to_answer, first_lost, greatest_wait
from graphs import PACTS, each
from samples import FAR_STATES, ODD, Picky, Same, crowded, example, many_watched, one_way, size, two_way, wide
from test_waits import answered_within, bare_graph, hears_answer, silent


def is_open(state, name):
    return len(state[NAMES.index(name)][1]) > 0


def is_paper(pact, paper, name, many):
    """Whether rows of bare states and numbers are a paper, told by the second stepping."""
    numbers = dict(paper)
    if len(numbers) < len(paper) or stepping.start(pact) not in numbers or max(numbers.values()) > many:
        return False
    for state, number in numbers.items():
        rows = stepping.steps(pact, state, most=0)
        if any(row[1] not in numbers for row in rows):
            return False
        if is_open(state, name):
            answered = any(hears_answer(state, row, name) for row in rows)
            lesser = any(is_open(row[1], name) and numbers[row[1]] < number for row in rows)
            if number < 1 or not answered and not lesser:
                return False
    return True


class PaperTest(unittest.TestCase):
    def test_example(self):
        paper = wait_paper(example(), "left")
        self.assertEqual(len(paper), 8)
        self.assertEqual(max(number for _, number in paper), 3)
        self.assertIn((first_state(example()), 0), paper)
        self.assertIs(is_wait_paper(example(), paper, "left", 3), True)
        self.assertIs(is_wait_paper(example(), paper, "left", 2), False)
        self.assertIs(is_wait_paper(example(), paper, "left", 10 ** 50), True)
        self.assertEqual({number for _, number in wait_paper(example(), "right")}, {0})

    def test_a_paper_of_an_end_is_none_of_the_other(self):
        pact = example()
        # The right end has nothing open, so every paper of the left one is one of the right one as well.
        self.assertIs(is_wait_paper(pact, wait_paper(pact, "left"), "right", 3), True)
        self.assertIs(is_wait_paper(pact, wait_paper(pact, "right"), "left", 3), False)

    def test_papers_of_all_small_pacts(self):
        lost = 0
        for label, pact, _, _ in each():
            rows = bare_graph(label)
            for name in NAMES:
                with self.subTest(pact=label, name=name):
                    known = answered_within(rows, name)
                    open_ones = [state for state in rows if is_open(state, name)]
                    paper = wait_paper(pact, name)
                    self.assertEqual(wait_paper(pact, name), paper)
                    if any(state not in known for state in open_ones):
                        self.assertIsNone(paper)
                        self.assertIsNone(greatest_wait(pact, name))
                        self.assertIsNotNone(first_lost(pact, name))
                        lost += 1
                        continue
                    most = max((known[state] for state in open_ones), default=0)
                    self.assertEqual(greatest_wait(pact, name), most)
                    self.assertIsInstance(paper, list)
                    self.assertEqual(sorted(state for state, _ in paper), sorted(rows))
                    self.assertIs(is_wait_paper(pact, paper, name, most), True)
                    self.assertTrue(is_paper(pact, paper, name, most))
                    if most > 0:
                        self.assertIs(is_wait_paper(pact, paper, name, most - 1), False)
        self.assertGreater(lost, 0)

    def test_a_pact_in_which_some_state_is_lost(self):
        pact = silent()
        self.assertIsNone(wait_paper(pact, "left"))
        self.assertEqual({number for _, number in wait_paper(pact, "right")}, {0})
        # No numbers make a paper of it.
        bare = [state for state in states(pact) if stepping.frames(pact, state) == 0]
        for number in (0, 1, 5):
            self.assertIs(is_wait_paper(pact, [(state, number) for state in bare], "left", 9), False)
        self.assertIs(is_wait_paper(pact, [(state, at) for at, state in enumerate(bare)], "left", 99), False)

    def test_no_paper_with_a_lesser_number(self):
        """The greatest wait is at most many just if there is such a paper: all least numbers are tried."""
        pact = example()
        paper = wait_paper(pact, "left")
        for at, (state, number) in enumerate(paper):
            for other in range(number):
                bent = paper[:at] + [(state, other)] + paper[at + 1:]
                self.assertIs(is_wait_paper(pact, bent, "left", 3), False)

    def test_in_any_order_and_as_a_tuple(self):
        paper = wait_paper(example(), "left")
        for seed in range(5):
            random.Random(seed).shuffle(paper)
            self.assertIs(is_wait_paper(example(), paper, "left", 3), True)
            self.assertIs(is_wait_paper(example(), tuple(paper), "left", 3), True)

    def test_a_number_of_a_state_with_nothing_open(self):
        pact = example()
        paper = [(state, number + 2 if not is_open(state, "left") else number) for state, number in wait_paper(pact, "left")]
        self.assertIs(is_wait_paper(pact, paper, "left", 3), True)
        paper[[state for state, _ in paper].index(first_state(pact))] = (first_state(pact), 4)
        self.assertIs(is_wait_paper(pact, paper, "left", 3), False)
        self.assertIs(is_wait_paper(pact, paper, "left", 4), True)

    def test_a_state_missing(self):
        for label in ("example", "two open", "two ways"):
            pact = PACTS[label]
            paper = wait_paper(pact, "left")
            many = greatest_wait(pact, "left")
            for at in range(0, len(paper), 1 + len(paper) // 9):
                self.assertIs(is_wait_paper(pact, paper[:at] + paper[at + 1:], "left", many), False)

    def test_doubles(self):
        paper = wait_paper(example(), "left")
        for at in range(len(paper)):
            state, number = paper[at]
            self.assertIs(is_wait_paper(example(), paper + [paper[at]], "left", 3), False)
            self.assertIs(is_wait_paper(example(), [(state, number + 1)] + paper, "left", 9), False)

    def test_raised_numbers(self):
        for label in ("example", "room sent heard", "two open"):
            pact = PACTS[label]
            many = greatest_wait(pact, "left")
            paper = wait_paper(pact, "left")
            for more in (1, 7):
                raised = [(state, number + more) for state, number in paper]
                self.assertIs(is_wait_paper(pact, raised, "left", many + more), True)
                self.assertIs(is_wait_paper(pact, raised, "left", many + more - 1), False)
            self.assertIs(is_wait_paper(pact, [(state, 2 * number) for state, number in paper], "left", 2 * many), True)

    def test_bent_papers(self):
        """A number too small or too great by some: told as the second stepping tells it."""
        seen = set()
        for label, pact, rows, _ in each():
            for name in NAMES:
                paper = wait_paper(pact, name) if len(rows) < 700 else None
                if paper is not None:
                    many = greatest_wait(pact, name)
                    chance = random.Random(label + name)
                    for _ in range(12):
                        bent = list(paper)
                        for _ in range(chance.randrange(1, 4)):
                            at = chance.randrange(len(bent))
                            bent[at] = (bent[at][0], max(0, bent[at][1] + chance.choice([-1, 1, 2])))
                        told = is_paper(pact, bent, name, many + 1)
                        self.assertIs(is_wait_paper(pact, bent, name, many + 1), told)
                        seen.add(told)
        self.assertEqual(seen, {True, False})

    def test_states_that_cannot_be_come_to(self):
        """A paper may have more states than it must, if it is closed with them."""
        pact = example()
        far = stepping.graph(pact, most=0, first=FAR_STATES[0])
        numbers = dict(wait_paper(pact, "left"))
        far_numbers = answered_within(far, "left")
        for state in far:
            numbers.setdefault(state, far_numbers.get(state, 0))
        self.assertGreater(len(numbers), 8)
        self.assertIs(is_wait_paper(pact, list(numbers.items()), "left", max(numbers.values())), True)
        self.assertIs(is_wait_paper(pact, list(numbers.items())[:-1], "left", 99), False)

    def test_what_fewest_to_answer_tells(self):
        pact = two_way()
        for name in NAMES:
            paper = wait_paper(pact, name)
            self.assertIs(is_wait_paper(pact, paper, name, greatest_wait(pact, name)), True)
        told = [(state, fewest_to_answer(example(), state, "left")) for state, _ in wait_paper(example(), "left")]
        self.assertIs(is_wait_paper(example(), told, "left", 3), True)

    def test_frames_in_a_lane(self):
        """States with a frame to a size in a lane are no bare ones, states with frames to a room are."""
        pact = example()
        paper = wait_paper(pact, "left")
        framed = [state for state in states(pact) if stepping.frames(pact, state) > 0]
        self.assertIs(is_wait_paper(pact, paper + [(framed[0], 0)], "left", 3), False)
        self.assertIs(is_wait_paper(pact, [(state, 3) for state in states(pact)], "left", 3), False)
        self.assertTrue(any(("frame", "a", 0) in state[3] for state, _ in wait_paper(PACTS["room sent heard"], "left")))
        # All watched states, with right numbers and closed under the moves that are no sends of such frames.
        rows = {state: [row for row in stepping.steps(pact, state) if not stepping.is_watched(pact, row[0][1])]
                for state in states(pact)}
        numbers = answered_within(rows, "left")
        self.assertIs(is_wait_paper(pact, [(state, numbers.get(state, 0)) for state in rows], "left", 9), False)

    def test_a_great_pact(self):
        for name in NAMES:
            paper = wait_paper(wide(), name)
            self.assertEqual(len(paper), 4200)
            self.assertIs(is_wait_paper(wide(), paper, name, greatest_wait(wide(), name)), True)


class CallsTest(unittest.TestCase):
    def test_values_that_are_no_pact(self):
        for value in ODD + [example().left]:
            for call in (lambda: wait_paper(value, "left"), lambda: wait_paper(value, None),
                         lambda: is_wait_paper(value, [], "left", 1), lambda: is_wait_paper(value, None, None, None)):
                with self.assertRaises(BadArgument) as told:
                    call()
                self.assertIs(told.exception.value, value)

    def test_values_that_are_no_name(self):
        for value in ODD + ["a", "middle"]:
            for call in (lambda: wait_paper(crowded(), value), lambda: is_wait_paper(example(), [], value, 1),
                         lambda: is_wait_paper(crowded(), None, value, None)):
                with self.assertRaises(BadName) as told:
                    call()
                self.assertIs(told.exception.value, value)

    def test_values_that_are_no_number(self):
        for value in [value for value in ODD if value.__class__ is not int or value < 0] + [-10 ** 30, "1"]:
            for paper in (None, wait_paper(example(), "left")):
                with self.assertRaises(BadNumber) as told:
                    is_wait_paper(example(), paper, "left", value)
                self.assertIs(told.exception.value, value)
        self.assertRaises(BadName, is_wait_paper, example(), [], "a", -1)

    def test_values_that_are_no_paper(self):
        paper = wait_paper(example(), "left")
        state, number = paper[0]
        for value in ODD:
            self.assertIs(is_wait_paper(example(), value, "left", 3), False)
        for row in ODD + [(state,), (state, number, 0), [state, number], (state, True), (state, -1), (state, 1.0), (state, "1"),
                          (state, None), (number, state), (list(state), number), (state[:3], number), (state, Picky()), (Picky(), 1),
                          (Same(), 1), state, ((state[1], state[0], (), ()), 0)]:
            self.assertIs(is_wait_paper(example(), [row] + paper[1:], "left", 3), False)
            self.assertIs(is_wait_paper(example(), paper + [row], "left", 3), False)
        self.assertIs(is_wait_paper(example(), dict(paper), "left", 3), False)
        self.assertIs(is_wait_paper(example(), iter(paper), "left", 3), False)
        self.assertIs(is_wait_paper(one_way(size([]), "heard"), paper, "left", 3), False)
        self.assertIs(is_wait_paper(two_way(), paper, "left", 3), False)

    def test_numbers_from_nought(self):
        pact = one_way(size([]), "heard")
        paper = [(first_state(pact), 0)]
        self.assertEqual(wait_paper(pact, "left"), paper)
        self.assertIs(is_wait_paper(pact, paper, "left", 0), True)
        self.assertIs(is_wait_paper(pact, [(first_state(pact), 1)], "left", 0), False)

    def test_too_many(self):
        for name in NAMES:
            with self.assertRaises(TooMany) as told:
                wait_paper(crowded(), name)
            self.assertEqual(told.exception.limit, 30000)
            self.assertIs(is_wait_paper(crowded(), [(first_state(crowded()), 0)], name, 3), False)

    def test_bare_states_are_counted(self):
        self.assertEqual(len(wait_paper(many_watched(), "left")), 6566)
        self.assertRaises(TooMany, greatest_wait, many_watched(), "left")
        paper = wait_paper(example(), "left")
        with mock.patch.object(spaces, "LIMIT", 8):
            self.assertEqual(wait_paper(example(), "left"), paper)
        with mock.patch.object(spaces, "LIMIT", 7):
            self.assertRaises(TooMany, wait_paper, example(), "left")
            self.assertRaises(TooMany, wait_paper, example(), "right")
            self.assertIs(is_wait_paper(example(), paper, "left", 3), True)
        with mock.patch.object(spaces, "LIMIT", 0):
            # Also where some state is lost.
            self.assertRaises(TooMany, wait_paper, silent(), "left")

    def test_names_of_the_parameters(self):
        paper = wait_paper(name="left", pact=example())
        self.assertIs(is_wait_paper(many=3, name="left", value=paper, pact=example()), True)

    def test_lists_belong_to_the_caller(self):
        paper = wait_paper(example(), "left")
        wait_paper(example(), "left").clear()
        self.assertEqual(wait_paper(example(), "left"), paper)
        rows = list(paper)
        is_wait_paper(example(), rows, "left", 3)
        self.assertEqual(rows, paper)

    def test_two_ends_that_wait(self):
        left = End({"a": size([(1, 2)])}, {"b": "heard"}, {"back": []}, 1)
        pact = Pact(left, End({"b": size([(1, 0)], "sent")}, {"a": "heard"}, {"back": [], "answer": [(0, 1)]}, 1))
        # The right end answers only while nothing of its own is open, so it waits less than the left one.
        self.assertGreater(greatest_wait(pact, "left"), greatest_wait(pact, "right"))
        for name in NAMES:
            self.assertIs(is_wait_paper(pact, wait_paper(pact, name), name, greatest_wait(pact, name)), True)
        self.assertIs(is_wait_paper(pact, wait_paper(pact, "left"), "left", greatest_wait(pact, "right")), False)


if __name__ == "__main__":
    unittest.main()
