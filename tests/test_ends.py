"""[2], [4] Ends."""

import unittest

from answeredsettings.ends import End
from answeredsettings.errors import BadDeed, BadEnd, BadName
from samples import ODD, Picky, Same, room, size, table

DEEDS = ("set", "back", "answer", "frame", "done")
NO_WORDS = ODD + ["a.", "a_b", "aB", "abcdefghij", "\n", "a\n", "1"]
WRONG_PAIRS = [
    None, 1, "01", (), (0,), (0, 1, 2), [0, 1], (4, 0), (0, 4), (-1, 0), (0, -1), (True, 0), (0, False), (0.0, 1),
    (1, 2.0), ("0", "1"), (None, None), ([], 0), {0: 1}, {0, 1}, object(), Picky(), (Picky(), 0), (0, Same()),
]


def good():
    return {"settings": {"a": size(), "b": room()}, "uses": {"c": "heard", "d": "answered"}, "rules": {}, "most": 2}


def made(**other):
    return End(**{**good(), **other})


class EndTest(unittest.TestCase):
    def assert_wrong(self, part, **other):
        with self.assertRaises(BadEnd, msg=repr(other)) as told:
            made(**other)
        self.assertEqual(told.exception.part, part, other)

    def test_position_and_name_are_the_same(self):
        one = End({"a": size()}, {"b": "heard"}, {"set": [(0, 1)]}, 3)
        self.assertEqual(one, End(settings={"a": size()}, uses={"b": "heard"}, rules={"set": [(0, 1)]}, most=3))
        self.assertEqual(one.setting(word="a"), size())
        self.assertEqual(one.use(word="b"), "heard")
        self.assertEqual(one.pairs(deed="set"), [(0, 1)])
        self.assertTrue(one.lets(deed="set", opened=0, owed=1))
        self.assertEqual(one.with_pairs(deed="set", pairs=[]).pairs("set"), [])

    def test_words(self):
        end = made(settings={"b": room(), "a": size()}, uses={"d": "heard", "c": "answered"})
        self.assertEqual((end.words(), end.used_words()), (["a", "b"], ["c", "d"]))
        self.assertEqual((end.setting("a"), end.setting("b")), (size(), room()))
        self.assertEqual((end.use("c"), end.use("d")), ("answered", "heard"))

    def test_longer_words_and_short_ones(self):
        end = made(settings={"abcdefgh": size(), "z": table()}, uses={"zzzzzzzz": "heard", "y": "heard"})
        self.assertEqual((end.words(), end.used_words()), (["abcdefgh", "z"], ["y", "zzzzzzzz"]))

    def test_words_are_ascending_as_texts(self):
        end = made(settings={"b": size(), "ab": size()}, uses={})
        self.assertEqual(end.words(), ["ab", "b"])

    def test_no_settings_and_no_uses(self):
        end = End({}, {}, {}, 1)
        self.assertEqual((end.words(), end.used_words(), end.most), ([], [], 1))
        self.assertEqual(made(uses={}).used_words(), [])
        self.assertEqual(made(settings={}).words(), [])

    def test_settings_that_are_no_dict(self):
        for value in ODD:
            if not isinstance(value, dict):
                self.assert_wrong("settings", settings=value)
        self.assert_wrong("settings", settings=[("a", size())])

    def test_settings_with_a_wrong_word_or_setting(self):
        for word in NO_WORDS:
            try:
                hash(word)
            except TypeError:
                continue
            self.assert_wrong("settings", settings={word: size()})
        for value in ODD:
            self.assert_wrong("settings", settings={"a": value})
            self.assert_wrong("settings", settings={"a": size(), "b": value})

    def test_too_many_settings_and_rooms(self):
        self.assert_wrong("settings", settings={"a": size(), "b": size(), "e": size()})
        self.assert_wrong("settings", settings={"a": room(), "b": room()})
        self.assertEqual(made(settings={"a": table(), "b": table()}).words(), ["a", "b"])

    def test_wrong_uses(self):
        for value in ODD:
            if not isinstance(value, dict):
                self.assert_wrong("uses", uses=value)
            self.assert_wrong("uses", uses={"c": value})
            self.assert_wrong("uses", uses={"d": "heard", "c": value})
        for word in NO_WORDS:
            try:
                hash(word)
            except TypeError:
                continue
            self.assert_wrong("uses", uses={word: "heard"})
        for use in ("sent", "open", "Heard", b"heard"):
            self.assert_wrong("uses", uses={"c": use})
        self.assert_wrong("uses", uses={"c": "heard", "d": "heard", "e": "heard"})

    def test_use_of_an_own_word(self):
        self.assert_wrong("uses", uses={"a": "heard"})
        self.assert_wrong("uses", uses={"c": "heard", "b": "heard"})

    def test_wrong_rules(self):
        for value in ODD:
            if not isinstance(value, dict):
                self.assert_wrong("rules", rules=value)
            if not isinstance(value, list) or value not in ([], [(1, 2)]):
                self.assert_wrong("rules", rules={"set": value})
        for deed in ["no", "hear", "sets", "", "Set", None, 1, True, ("set",), b"set", frozenset()]:
            self.assert_wrong("rules", rules={deed: []})
            self.assert_wrong("rules", rules={"set": [], deed: []})
        for value in [None, (), ((0, 0),), {}, {(0, 0): True}, {(0, 0)}, "", 0]:
            self.assert_wrong("rules", rules={"set": value})

    def test_rules_with_wrong_pairs(self):
        for pair in WRONG_PAIRS:
            for deed in DEEDS:
                self.assert_wrong("rules", rules={deed: [pair]})
            self.assert_wrong("rules", rules={"set": [(0, 0), pair]})
            self.assert_wrong("rules", rules={"set": [(0, 0)], "done": [pair, (1, 1)]})

    def test_wrong_most(self):
        for value in [None, True, False, 0, 4, -1, 1.0, "1", "", (1,), [2], {}, {1: 1}, object(), Picky(), Same()]:
            self.assert_wrong("most", most=value)

    def test_most(self):
        for most in (1, 2, 3):
            self.assertEqual(made(most=most).most, most)
        with self.assertRaises(AttributeError):
            made().most = 1

    def test_first_wrong_part_is_told(self):
        parts = ["settings", "uses", "rules", "most"]
        for first in range(4):
            self.assert_wrong(parts[first], **{part: None for part in parts[first:]})
            for second in range(first + 1, 4):
                self.assert_wrong(parts[first], **{parts[first]: Picky(), parts[second]: Picky()})

    def test_names_that_are_none(self):
        end = made()
        for value in NO_WORDS + ["c", "d", "e", "ab"]:
            with self.assertRaises(BadName) as told:
                end.setting(value)
            self.assertIs(told.exception.value, value)
        for value in NO_WORDS + ["a", "b", "e", "cd"]:
            with self.assertRaises(BadName) as told:
                end.use(value)
            self.assertIs(told.exception.value, value)

    def test_pairs(self):
        end = made(rules={"set": [(3, 0), (0, 3), (3, 0), (0, 0)], "frame": []})
        self.assertEqual(end.pairs("set"), [(0, 0), (0, 3), (3, 0)])
        self.assertEqual(end.pairs("frame"), [])
        for deed in ("back", "answer", "done"):
            self.assertIsNone(end.pairs(deed))

    def test_deeds_that_are_none(self):
        end = made()
        for value in ODD + ["no", "hear", "sets", "Set"]:
            for call in (
                lambda: end.pairs(value), lambda: end.lets(value, 0, 0), lambda: end.lets(value, None, None),
                lambda: end.with_pairs(value, []), lambda: end.with_pairs(value, 7), lambda: end.with_pairs(value, None),
            ):
                with self.assertRaises(BadDeed) as told:
                    call()
                self.assertIs(told.exception.value, value)

    def test_lets(self):
        end = made(rules={"set": [(0, 3), (3, 0)], "back": []})
        numbers = [(opened, owed) for opened in range(4) for owed in range(4)]
        self.assertEqual([pair for pair in numbers if end.lets("set", *pair)], [(0, 3), (3, 0)])
        self.assertEqual([pair for pair in numbers if end.lets("back", *pair)], [])
        for deed in ("answer", "frame", "done"):
            self.assertEqual([pair for pair in numbers if end.lets(deed, *pair)], numbers)

    def test_lets_of_any_numbers(self):
        end = made(rules={"set": [(0, 0), (0, 1), (1, 0), (1, 1)]})
        for value in [None, True, False, -1, 4, 0.0, 1.0, "0", (0,), [], {}, Picky(), Same()]:
            for deed in DEEDS:
                self.assertIs(end.lets(deed, value, 0), False)
                self.assertIs(end.lets(deed, 1, value), False)
                self.assertIs(end.lets(deed, value, value), False)
        self.assertIs(end.lets("set", 1, 0), True)
        self.assertIs(end.lets("done", 3, 3), True)

    def test_with_pairs(self):
        end = made(rules={"set": [(0, 0)], "back": [(1, 1)]})
        other = end.with_pairs("set", [(3, 3), (2, 0), (3, 3)])
        self.assertEqual(other, made(rules={"set": [(2, 0), (3, 3)], "back": [(1, 1)]}))
        self.assertEqual(end.with_pairs("set", None), made(rules={"back": [(1, 1)]}))
        self.assertEqual(end.with_pairs("set", []), made(rules={"set": [], "back": [(1, 1)]}))
        self.assertEqual(end.with_pairs("done", [(0, 0)]).pairs("done"), [(0, 0)])
        self.assertEqual(end.with_pairs("done", None), end)
        self.assertEqual(end, made(rules={"set": [(0, 0)], "back": [(1, 1)]}))

    def test_with_wrong_pairs(self):
        for value in ODD:
            if value is not None and (not isinstance(value, list) or value not in ([], [(1, 2)])):
                with self.assertRaises(BadEnd) as told:
                    made().with_pairs("frame", value)
                self.assertEqual(told.exception.part, "rules")
        for pair in WRONG_PAIRS:
            with self.assertRaises(BadEnd) as told:
                made().with_pairs("set", [(0, 0), pair])
            self.assertEqual(told.exception.part, "rules")

    def test_lists_and_dicts_belong_to_the_caller(self):
        settings, uses, pairs = {"a": size()}, {"c": "heard"}, [(0, 0)]
        rules = {"set": pairs}
        end = End(settings, uses, rules, 1)
        twin = End({"a": size()}, {"c": "heard"}, {"set": [(0, 0)]}, 1)
        settings["b"] = table()
        settings["a"] = room()
        uses["c"] = "answered"
        uses["d"] = "heard"
        pairs.append((1, 1))
        rules["back"] = []
        del rules["set"]
        self.assertEqual(end, twin)
        self.assertEqual((end.words(), end.used_words(), end.use("c")), (["a"], ["c"], "heard"))
        self.assertEqual((end.pairs("set"), end.pairs("back")), ([(0, 0)], None))
        end.words().append("x")
        end.used_words().clear()
        end.pairs("set").append((2, 2))
        self.assertEqual(end, twin)
        self.assertEqual((end.words(), end.used_words(), end.pairs("set")), (["a"], ["c"], [(0, 0)]))
        given = [(3, 3)]
        other = end.with_pairs("set", given)
        given.append((2, 2))
        self.assertEqual(other.pairs("set"), [(3, 3)])

    def test_given_lists_and_dicts_are_not_changed(self):
        settings, uses, rules = {"b": size(), "a": size()}, {"d": "heard", "c": "heard"}, {"set": [(1, 1), (0, 0)]}
        end = End(settings, uses, rules, 1)
        end.words(), end.pairs("set"), end.with_pairs("set", None), end.with_pairs("back", [(1, 1), (0, 0)])
        self.assertEqual((list(settings), list(uses), rules), (["b", "a"], ["d", "c"], {"set": [(1, 1), (0, 0)]}))

    def test_equal(self):
        base = made(rules={"set": [(0, 0), (1, 1)]})
        same = End({"b": room(), "a": size()}, {"d": "answered", "c": "heard"}, {"set": [(1, 1), (0, 0), (1, 1)]}, 2)
        self.assertTrue(base == same)
        self.assertFalse(base != same)
        everything = [(opened, owed) for opened in range(4) for owed in range(4)]
        for other in (
            made(rules={"set": [(0, 0), (1, 1)]}, most=1), made(), made(rules={"set": [(0, 0)]}),
            made(rules={"back": [(0, 0), (1, 1)]}), made(rules={"set": [(0, 0), (1, 1)], "back": []}),
            made(rules={"set": everything}),
            made(rules={"set": [(0, 0), (1, 1)]}, uses={"c": "heard", "d": "heard"}),
            made(rules={"set": [(0, 0), (1, 1)]}, uses={"c": "heard"}),
            made(rules={"set": [(0, 0), (1, 1)]}, settings={"a": size()}),
            made(rules={"set": [(0, 0), (1, 1)]}, settings={"a": size(hold="sent"), "b": room()}),
            made(rules={"set": [(0, 0), (1, 1)]}, settings={"a": size(), "e": room()}),
        ):
            self.assertFalse(base == other)
            self.assertTrue(base != other)
        self.assertFalse(made() == made(rules={"set": everything}))

    def test_equal_with_another_class(self):
        for value in ODD + [size()]:
            if not isinstance(value, Picky):
                self.assertIs(made() == value, False)


if __name__ == "__main__":
    unittest.main()
