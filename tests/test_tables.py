"""[1], [2], [11], [13] Tables."""

import unittest
from unittest import mock

import stepping
from answeredsettings import spaces
from answeredsettings.errors import BadArgument, TooMany
from answeredsettings.pacts import Pact
from answeredsettings.search import states
from answeredsettings.states import first_state
from answeredsettings.tables import is_table, joined, lacking, table_of
from graphs import each
from samples import FAR_STATES, NO_TABLES, ODD, START, USED, crowded, example, one_way, room, size, two_way, wide


def closed(pact, first):
    """All states that moves lead to from a state, and this one."""
    return list(stepping.graph(pact, first=first))


class ClosedTest(unittest.TestCase):
    def test_example(self):
        told = table_of(example())
        self.assertEqual((len(told), told), (35, states(example())))
        self.assertIs(is_table(example(), told), True)
        self.assertEqual(lacking(example(), told), [])

    def test_the_least_table_is_just_what_can_be_come_to(self):
        for name, pact, rows, _ in each():
            with self.subTest(name=name):
                told = table_of(pact)
                self.assertEqual(told, sorted(rows, key=str))
                self.assertIs(is_table(pact, told), True)
                self.assertEqual(lacking(pact, told), [])

    def test_a_table_that_lacks_one_state(self):
        for name, pact, rows, _ in each():
            told = table_of(pact)
            with self.subTest(name=name):
                for at in range(0, len(told), 1 + len(told) // 3):
                    rest = told[:at] + told[at + 1:]
                    self.assertIs(is_table(pact, rest), False)
                    self.assertEqual(lacking(pact, rest), [told[at]])

    def test_each_state_of_the_example_is_asked_for(self):
        told = table_of(example())
        for state in told:
            rest = [one for one in told if one != state]
            self.assertIs(is_table(example(), rest), False)
            self.assertEqual(lacking(example(), rest), [state])

    def test_lacking_at_the_first_step(self):
        for name, pact, rows, depth in each():
            with self.subTest(name=name):
                for kept in (lambda at: at % 3 == 0, lambda at: at % 2 == 1, lambda at: at < 5):
                    table = [state for at, state in enumerate(rows) if kept(at)]
                    behind = {row[1] for state in table for row in rows[state]} | {first_state(pact)}
                    told = lacking(pact, table)
                    self.assertEqual(told, sorted(behind - set(table), key=str))
                    self.assertIs(is_table(pact, table), told == [])

    def test_the_first_state_missing(self):
        pact = example()
        start = first_state(pact)
        self.assertEqual(lacking(pact, []), [start])
        self.assertEqual(lacking(pact, ()), [start])
        self.assertIs(is_table(pact, []), False)
        self.assertIs(is_table(pact, ()), False)
        # Closed but for the start: no change leads on from 0.
        table = closed(pact, (((0,), (), (), (), (), ()), ((), (), (), (0,), (), ()), (), ()))
        self.assertEqual(len(table), 2)
        self.assertNotIn(start, table)
        self.assertEqual(lacking(pact, table), [start])
        self.assertIs(is_table(pact, table), False)
        self.assertIs(is_table(pact, table + table_of(pact)), True)

    def test_steps_of_the_first_state(self):
        pact = example()
        start = first_state(pact)
        behind = [
            (((1,), (("a", 2, 0),), (), (), (), ()), USED, (("set", "a", 2),), ()),
            (START, USED, (), (("frame", "a", 0),)), (START, USED, (), (("frame", "a", 1),)),
        ]
        self.assertEqual(lacking(pact, [start]), sorted(behind, key=str))
        self.assertEqual([state for state in lacking(pact, [start] + behind[1:]) if state in behind], behind[:1])

    def test_states_that_cannot_be_come_to(self):
        pact = example()
        least = table_of(pact)
        for state in FAR_STATES:
            self.assertNotIn(state, least)
            more = closed(pact, state)
            self.assertIs(is_table(pact, least + more), True)
            behind = {row[1] for row in stepping.steps(pact, state)} - {state} - set(least)
            self.assertEqual(lacking(pact, least + [state]), sorted(behind, key=str))
            self.assertIs(is_table(pact, least + [state]), behind == set())

    def test_a_frame_in_a_lane_bars_other_ones(self):
        pact = example()
        frame = (START, USED, (), (("frame", "a", 1),))
        told = lacking(pact, [frame])
        self.assertIn(first_state(pact), told)
        self.assertTrue(all(len([one for one in state[3] if one[0] == "frame"]) <= 1 for state in told))

    def test_frames_to_rooms_bar_none(self):
        pact = one_way(room([], start=2), "heard")
        start = first_state(pact)
        one, = lacking(pact, [start])
        self.assertEqual(one[3], (("frame", "a", 0),))
        self.assertIn((("frame", "a", 0),) * 2, [state[3] for state in lacking(pact, [start, one])])

    def test_order_doubles_and_tuples(self):
        for pact in (example(), two_way()):
            told = table_of(pact)
            for value in (told[::-1], told + told[:3], tuple(told), tuple(told[::-1] + told)):
                self.assertIs(is_table(pact, value), True)
                self.assertEqual(lacking(pact, value), [])
            self.assertEqual(lacking(pact, tuple(told[1:] * 2)), told[:1])

    def test_other_pacts(self):
        """A table of one pact shows nothing of another one with more moves, but of one with fewer."""
        tight = one_way(size(), "heard", {"back": [], "set": []})
        self.assertIs(is_table(tight, table_of(example())), True)
        self.assertIs(is_table(example(), table_of(tight)), False)
        self.assertIs(is_table(one_way(size(), "heard"), table_of(example())), False)

    def test_ends_turned_about(self):
        pact = example()
        turned = Pact(pact.right, pact.left)
        told = [(state[1], state[0], state[3], state[2]) for state in table_of(pact)]
        self.assertEqual(table_of(turned), sorted(told, key=str))
        self.assertIs(is_table(turned, told), True)
        self.assertIs(is_table(turned, table_of(pact)), False)


class JoinedTest(unittest.TestCase):
    def test_joined(self):
        pact = example()
        told = table_of(pact)
        self.assertEqual(joined(pact), [])
        self.assertEqual(joined(pact, []), [])
        self.assertEqual(joined(pact, (), [], ()), [])
        self.assertEqual(joined(pact, told[::-1]), told)
        self.assertEqual(joined(pact, told[:9] * 2, tuple(told[20:]), told[5:25]), told)
        self.assertEqual(joined(pact, told, FAR_STATES), sorted(told + FAR_STATES, key=str))
        self.assertEqual(joined(pact, FAR_STATES[:1]), FAR_STATES[:1])

    def test_closed_tables_join_to_a_closed_one(self):
        pact = example()
        told = table_of(pact)
        one, other = told + closed(pact, FAR_STATES[0]), told + closed(pact, FAR_STATES[2])
        self.assertIs(is_table(pact, joined(pact, one, other)), True)

    def test_the_first_one_that_is_no_table(self):
        wrong = [1, None]
        for tables in ((wrong,), ([], wrong), (wrong, None, {}), (table_of(example()), (), wrong, [1])):
            with self.assertRaises(BadArgument) as told:
                joined(example(), *tables)
            self.assertIs(told.exception.value, wrong)


class CallsTest(unittest.TestCase):
    def test_values_that_are_no_table(self):
        start = first_state(example())
        more = [[start, None], (start, True), [[start]], (list(start),), {start: 1}, {start}, [start[:3]], start, [start + ((),)]]
        for value in NO_TABLES + more:
            self.assertIs(is_table(example(), value), False)
            for call in (lambda: lacking(example(), value), lambda: joined(example(), value),
                         lambda: lacking(crowded(), value)):
                with self.assertRaises(BadArgument) as told:
                    call()
                self.assertIs(told.exception.value, value)

    def test_lists_inside_lists(self):
        """Values that can be no keys of a dict, deep inside a table."""
        start = first_state(example())
        for value in ([(start[0], start[1], [], ())], [([1], start[1], (), ())], [(start[0], start[1], (), ([],))]):
            self.assertIs(is_table(example(), value), False)
            with self.assertRaises(BadArgument):
                lacking(example(), value)

    def test_values_that_are_no_pact(self):
        for value in ODD + [example().left]:
            for call in (lambda: table_of(value), lambda: is_table(value, []), lambda: is_table(value, None),
                         lambda: lacking(value, None), lambda: lacking(value, []), lambda: joined(value),
                         lambda: joined(value, None)):
                with self.assertRaises(BadArgument) as told:
                    call()
                self.assertIs(told.exception.value, value)

    def test_names_of_the_parameters(self):
        pact, told = example(), table_of(pact=example())
        self.assertIs(is_table(value=told, pact=pact), True)
        self.assertEqual(lacking(table=told[1:], pact=pact), told[:1])

    def test_lists_belong_to_the_caller(self):
        pact = example()
        told = table_of(pact)
        mine = told[::-1] + told[:2]
        before = list(mine)
        lacking(pact, mine).append(1)
        joined(pact, mine).clear()
        self.assertTrue(is_table(pact, mine))
        self.assertEqual(mine, before)
        told.clear()
        self.assertEqual(len(table_of(pact)), 35)

    def test_which_calls_search(self):
        pact = crowded()
        start = first_state(pact)
        with self.assertRaises(TooMany) as told:
            table_of(pact)
        self.assertEqual(told.exception.limit, 30000)
        self.assertIs(is_table(pact, [start]), False)
        self.assertEqual(lacking(pact, []), [start])
        self.assertGreater(len(lacking(pact, [start])), 3)
        self.assertEqual(joined(pact, [start], [start]), [start])

    def test_just_as_many_as_the_limit(self):
        with mock.patch.object(spaces, "LIMIT", 35):
            self.assertEqual(len(table_of(example())), 35)
        with mock.patch.object(spaces, "LIMIT", 34):
            self.assertRaises(TooMany, table_of, example())
            self.assertEqual(len(lacking(example(), [])), 1)

    def test_a_great_table(self):
        pact = wide()
        told = table_of(pact)
        self.assertEqual(len(told), 26626)
        self.assertEqual(lacking(pact, told[1:]), told[:1])


if __name__ == "__main__":
    unittest.main()
