"""[2], [5] Pacts."""

import unittest

from answeredsettings.ends import End
from answeredsettings.errors import BadName, BadPact
from answeredsettings.pacts import Pact
from samples import ODD, Picky, example, room, size, table


def two_sided():
    left = End({"b": size(), "d": room()}, {"a": "heard", "c": "answered"}, {"set": [(0, 0)]}, 2)
    right = End({"a": table(), "c": size()}, {"b": "heard", "d": "answered"}, {}, 1)
    return left, right


class PactTest(unittest.TestCase):
    def assert_wrong(self, part, left, right):
        with self.assertRaises(BadPact) as told:
            Pact(left, right)
        self.assertEqual(told.exception.part, part)

    def test_ends_and_names(self):
        left, right = two_sided()
        for pact in (Pact(left, right), Pact(left=left, right=right)):
            self.assertIs(pact.left, left)
            self.assertIs(pact.right, right)
            self.assertEqual((pact.end("left"), pact.end(name="right")), (left, right))
            self.assertEqual((pact.other("left"), pact.other(name="right")), ("right", "left"))

    def test_words(self):
        pact = Pact(*two_sided())
        self.assertEqual(pact.words(), ["a", "b", "c", "d"])
        self.assertEqual([pact.owner(word) for word in "abcd"], ["right", "left", "right", "left"])
        self.assertEqual([pact.setting(word) for word in "abcd"], [table(), size(), size(), room()])
        self.assertEqual((pact.owner(word="a"), pact.setting(word="b")), ("right", size()))

    def test_no_words(self):
        pact = Pact(End({}, {}, {}, 1), End({}, {}, {}, 3))
        self.assertEqual(pact.words(), [])
        with self.assertRaises(BadName):
            pact.owner("a")

    def test_values_that_are_no_ends(self):
        left, right = two_sided()
        for value in ODD + [size(), example()]:
            self.assert_wrong("left", value, right)
            self.assert_wrong("right", left, value)
            self.assert_wrong("left", value, value)
            self.assert_wrong("left", value, End({}, {}, {}, 1))

    def test_words_that_do_not_fit(self):
        empty, lone = End({}, {}, {}, 1), End({"a": size()}, {}, {}, 1)
        user = End({}, {"a": "heard"}, {}, 1)
        self.assert_wrong("words", lone, empty)
        self.assert_wrong("words", empty, lone)
        self.assert_wrong("words", user, empty)
        self.assert_wrong("words", empty, user)
        self.assert_wrong("words", lone, lone)
        self.assert_wrong("words", user, user)
        self.assert_wrong("words", lone, End({}, {"b": "heard"}, {}, 1))
        self.assert_wrong("words", lone, End({}, {"a": "heard", "b": "heard"}, {}, 1))
        self.assert_wrong("words", End({"a": size(), "b": size()}, {}, {}, 1), user)
        self.assert_wrong("words", End({"a": size()}, {"b": "heard"}, {}, 1), user)

    def test_a_word_of_both_ends(self):
        both = End({"a": size(), "b": size()}, {"c": "heard"}, {}, 1)
        self.assert_wrong("words", both, End({"a": size(), "c": size()}, {"b": "heard"}, {}, 1))

    def test_values_that_are_no_names(self):
        pact = Pact(*two_sided())
        for value in ODD + ["a", "lefts", "Right", b"right"]:
            for call in (
                lambda: pact.end(value), lambda: pact.other(value), lambda: pact.with_end(value, None),
                lambda: pact.with_end(value, pact.left),
            ):
                with self.assertRaises(BadName) as told:
                    call()
                self.assertIs(told.exception.value, value)

    def test_values_that_are_no_words(self):
        pact = Pact(*two_sided())
        for value in ODD + ["e", "left", "ab"]:
            for call in (lambda: pact.owner(value), lambda: pact.setting(value)):
                with self.assertRaises(BadName) as told:
                    call()
                self.assertIs(told.exception.value, value)

    def test_with_end(self):
        left, right = two_sided()
        pact = Pact(left, right)
        other = right.with_pairs("frame", [])
        self.assertEqual(pact.with_end("right", other), Pact(left, other))
        self.assertEqual(pact.with_end(name="left", end=left.with_pairs("set", None)).left.pairs("set"), None)
        self.assertEqual(pact, Pact(left, right))

    def test_with_a_wrong_end(self):
        pact = Pact(*two_sided())
        for value in ODD + [pact]:
            for name in ("left", "right"):
                with self.assertRaises(BadPact) as told:
                    pact.with_end(name, value)
                self.assertEqual(told.exception.part, name)
        for name, end in (("left", pact.right), ("right", pact.left), ("left", End({}, {}, {}, 1))):
            with self.assertRaises(BadPact) as told:
                pact.with_end(name, end)
            self.assertEqual(told.exception.part, "words")

    def test_properties_cannot_be_assigned(self):
        for name in ("left", "right"):
            with self.assertRaises(AttributeError):
                setattr(example(), name, None)

    def test_lists_belong_to_the_caller(self):
        pact = Pact(*two_sided())
        pact.words().clear()
        self.assertEqual(pact.words(), ["a", "b", "c", "d"])

    def test_equal(self):
        left, right = two_sided()
        self.assertTrue(Pact(left, right) == Pact(*two_sided()))
        self.assertFalse(Pact(left, right) != Pact(*two_sided()))
        self.assertFalse(Pact(left, right) == Pact(left, right.with_pairs("set", [])))
        self.assertFalse(Pact(left, right) == Pact(left.with_pairs("set", None), right))
        self.assertFalse(Pact(left, right) == Pact(right, left))
        self.assertFalse(Pact(left, right) == example())

    def test_equal_with_another_class(self):
        for value in ODD + [example().left]:
            if not isinstance(value, Picky):
                self.assertIs(example() == value, False)


if __name__ == "__main__":
    unittest.main()
