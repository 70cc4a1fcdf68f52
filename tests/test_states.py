"""[6], [9] The state at the start."""

import unittest

from answeredsettings.ends import End
from answeredsettings.errors import BadArgument
from answeredsettings.pacts import Pact
from answeredsettings.states import first_state
from samples import ODD, example, room, size, table, two_at_one


class FirstStateTest(unittest.TestCase):
    def test_example(self):
        self.assertEqual(first_state(example()), (((1,), (), (), (), (), ()), ((), (), (), (1,), (), ()), (), ()))
        self.assertEqual(first_state(pact=example()), first_state(example()))

    def test_no_settings(self):
        nothing = ((), (), (), (), (), ())
        self.assertEqual(first_state(Pact(End({}, {}, {}, 1), End({}, {}, {}, 2))), (nothing, nothing, (), ()))

    def test_values_are_ascending_by_word(self):
        left = End({"b": size(start=2), "ab": room(start=0)}, {"z": "heard", "c": "answered"}, {}, 1)
        right = End({"z": room(start=1), "c": table(start=2)}, {"b": "heard", "ab": "heard"}, {}, 1)
        self.assertEqual(
            first_state(Pact(left, right)),
            (((0, 2), (), (), (2, 1), (0,), (0,)), ((2, 1), (), (), (0, 2), (0,), (0,)), (), ()),
        )
        self.assertEqual(first_state(two_at_one())[0], ((0, 0), (), (), (), (), ()))

    def test_credit_for_the_room_of_the_other_end(self):
        pact = Pact(End({"a": room()}, {}, {}, 1), End({}, {"a": "heard"}, {}, 1))
        self.assertEqual(first_state(pact), (((1,), (), (), (), (), (0,)), ((), (), (), (1,), (0,), ()), (), ()))

    def test_values_that_are_no_pact(self):
        for value in ODD + [example().left, size()]:
            with self.assertRaises(BadArgument) as told:
                first_state(value)
            self.assertIs(told.exception.value, value)


if __name__ == "__main__":
    unittest.main()
