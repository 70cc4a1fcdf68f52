"""[2] Every error of the interface, with its field."""

import unittest

from answeredsettings import errors
from answeredsettings.errors import NothingLeft, PactError
from samples import ODD

FIELDS = {
    "BadArgument": "value", "BadSetting": "part", "BadEnd": "part", "BadPact": "part", "BadName": "value",
    "BadDeed": "value", "BadState": "value", "BadMove": "value", "BadScript": "at", "BadNumber": "value",
    "BadClaim": "value", "BadChange": "value", "BadMenu": "value", "BadText": "value", "BadHalf": "value",
    "BadBytes": "value", "NoRow": "row", "TooMany": "limit",
}


class ErrorsTest(unittest.TestCase):
    def test_field_by_position_is_kept_as_it_is(self):
        for name, field in FIELDS.items():
            for value in ODD:
                with self.subTest(name=name, kind=value.__class__):
                    self.assertIs(getattr(getattr(errors, name)(value), field), value)

    def test_field_by_name_is_kept_as_it_is(self):
        for name, field in FIELDS.items():
            for value in ODD:
                with self.subTest(name=name, kind=value.__class__):
                    self.assertIs(getattr(getattr(errors, name)(**{field: value}), field), value)

    def test_each_is_directly_under_pact_error(self):
        for name in list(FIELDS) + ["NothingLeft"]:
            self.assertEqual(getattr(errors, name).__bases__, (PactError,), name)
        self.assertEqual(PactError.__bases__, (Exception,))

    def test_field_is_asked_for(self):
        for name in FIELDS:
            with self.assertRaises(TypeError):
                getattr(errors, name)()
            with self.assertRaises(TypeError):
                getattr(errors, name)(1, 2)

    def test_nothing_left_has_no_field(self):
        with self.assertRaises(PactError) as told:
            raise NothingLeft()
        self.assertEqual(vars(told.exception), {})

    def test_each_can_be_raised_and_caught(self):
        for name, field in FIELDS.items():
            with self.assertRaises(PactError) as told:
                raise getattr(errors, name)("x")
            self.assertEqual(vars(told.exception), {field: "x"})


if __name__ == "__main__":
    unittest.main()
