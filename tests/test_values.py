"""[1], [2], [24] Nested values as texts."""

import itertools
import random
import re
import unittest

from answeredsettings.claims import against, is_claim, is_shown
from answeredsettings.errors import BadText
from answeredsettings.tables import is_table, table_of
from answeredsettings.values import read_value, write_value
from samples import ODD, example

PAIRS = [
    (None, "None"), (True, "True"), (False, "False"), (0, "0"), (7, "7"), (-1, "-1"), (10, "10"), (-120, "-120"), ("a", "a"),
    ("none", "none"), ("true", "true"), ("abcdefghijklmnopqrstuvwxyz", "abcdefghijklmnopqrstuvwxyz"), ((), "()"), ([], "[]"),
    ((1,), "(1)"), ([1], "[1]"), (((),), "(())"), ([[]], "[[]]"), (([],), "([])"), ([()], "[()]"),
    (("a", 2, 1, "refused"), "(a 2 1 refused)"), ([1, [2, (3, "x")], ()], "[1 [2 (3 x)] ()]"),
    ((None, True, False, -5), "(None True False -5)"), (([], [], ()), "([] [] ())"), (("kept", "a"), "(kept a)"),
    ([("left", ("hear",)), ("right", ("set", "a", 2))], "[(left (hear)) (right (set a 2))]"),
]
# Texts of no value, each near to one.
NO_VALUES = [
    "", " ", "a ", " a", "a b", "none1", "A", "aB", "none None", "NONE", "nOne", "None ", "Nonea", "Truefalse", "true True", "a1",
    "1a", "a_b", "\u00e4", "00", "01", "-0", "-01", "-", "--1", "+1", "1-", "1.0", "1e5", "0x1", "1_0", "\u0661", "\u00b2", "(", ")",
    "[", "]", "(]", "[)", "(()", "())", "([)]", "(a", "a)", "( )", "[ ]", "( a)", "(a )", "(a  b)", "(a,b)", "(a, b)", "(a)(b)",
    "(a) (b)", "(a)b", "a(b)", "()()", "() ()", "(a(b))", "(a)]", "[(a])", "(a\tb)", "(a\nb)", "(a b\n)", "'a'", "{}", "()a", "(a) ",
    " (a)", "(1)2", ")(", "][", "(-)", "(- 1)", "(None,)", "a\n", "\n", "1\n", "(a))", "((a)", "[a] ]", "((a) b", "()(",
]


def nested(opener, many, inside=""):
    return opener * many + inside + {"(": ")", "[": "]"}[opener] * many


def read_by_descent(text):
    """A list with the one value that a text writes, None if it writes none: read sign by sign from the left."""
    def value_at(at, depth):
        if text[at:at + 1] in ("(", "["):
            closer, found = {"(": ")", "[": "]"}[text[at]], []
            at += 1
            if depth == 20:
                return None
            if text[at:at + 1] == closer:
                return (at + 1, () if closer == ")" else [])
            while True:
                told = value_at(at, depth + 1)
                if told is None:
                    return None
                at, value = told
                found.append(value)
                if text[at:at + 1] == closer:
                    return (at + 1, tuple(found) if closer == ")" else found)
                if text[at:at + 1] != " ":
                    return None
                at += 1
        told = re.compile(r"None|True|False|[a-z]+|0|-?[1-9][0-9]{0,39}").match(text, at)
        if told is None:
            return None
        plain = told.group()
        known = {"None": None, "True": True, "False": False}
        return (told.end(), known[plain] if plain in known else plain if plain.isalpha() else int(plain))

    told = value_at(0, 0)
    return [told[1]] if told is not None and told[0] == len(text) else None


def same(one, other):
    """Whether two nested values are of the same kinds throughout."""
    if one.__class__ is not other.__class__:
        return False
    if isinstance(one, (tuple, list)):
        return len(one) == len(other) and all(map(same, one, other))
    return one == other


def any_value(chance, depth):
    kind = chance.randrange(8 if depth > 0 else 5)
    if kind >= 5:
        inside = [any_value(chance, depth - 1) for _ in range(chance.randrange(4))]
        return tuple(inside) if kind % 2 else inside
    return [None, chance.random() < 0.5, chance.randrange(-99, 100), chance.randrange(10 ** 39, 10 ** 40),
            "".join(chance.choice("abcxyz") for _ in range(chance.randrange(1, 12)))][kind]


class ValuesTest(unittest.TestCase):
    def test_written(self):
        for value, text in PAIRS:
            self.assertEqual(write_value(value), text)

    def test_read(self):
        for value, text in PAIRS:
            self.assertTrue(same(read_value(text), value), text)

    def test_what_is_written_is_read(self):
        for seed in range(300):
            value = any_value(random.Random(seed), 1 + seed % 7)
            self.assertTrue(same(read_value(write_value(value)), value), value)

    def test_words_that_look_like_a_truth_or_none(self):
        for word in ("true", "false", "none", "yes"):
            self.assertEqual(read_value(word), word)
            self.assertEqual(read_value(f"({word} None)"), (word, None))

    def test_long_texts_and_long_lists(self):
        self.assertEqual(read_value("a" * 5000), "a" * 5000)
        self.assertEqual(read_value(write_value(list(range(3000)))), list(range(3000)))

    def test_integers_of_40_and_of_41_digits(self):
        for number in (10 ** 40 - 1, 10 ** 39, 1 - 10 ** 40, -10 ** 39):
            self.assertEqual(read_value(str(number)), number)
            self.assertEqual(read_value(write_value([number])), [number])
        for number in (10 ** 40, -10 ** 40, 10 ** 60):
            for text in (str(number), f"({number})", f"[a {number}]"):
                with self.assertRaises(BadText) as told:
                    read_value(text)
                self.assertIs(told.exception.value, text)
            # Beyond the limit is written all the same.
            self.assertEqual(write_value(number), str(number))
        self.assertRaises(BadText, read_value, "1" * 6000)
        self.assertRaises(BadText, read_value, "0" * 40)

    def test_values_twenty_and_twenty_one_deep(self):
        for opener in "([":
            for inside in ("", "a", "a b"):
                text = nested(opener, 20, inside)
                self.assertEqual(write_value(read_value(text)), text)
                with self.assertRaises(BadText):
                    read_value(nested(opener, 21, inside))
        text = "([" * 10 + "1" + "])" * 10
        self.assertEqual(write_value(read_value(text)), text)
        self.assertRaises(BadText, read_value, "[" + text + "]")
        self.assertRaises(BadText, read_value, f"(a {text})")
        self.assertEqual(read_value(f"[{nested('(', 19)} {nested('[', 19)}]")[1], read_value(nested("[", 19)))
        value = 1
        for _ in range(30):
            value = (value,)
        self.assertEqual(write_value(value), nested("(", 30, "1"))
        self.assertRaises(BadText, read_value, "(" * 50000 + ")" * 50000)

    def test_texts_of_no_value(self):
        for text in NO_VALUES + [value for value in ODD if not isinstance(value, str)]:
            with self.assertRaises(BadText, msg=repr(text)) as told:
                read_value(text)
            self.assertIs(told.exception.value, text)

    def test_all_short_texts(self):
        count = 0
        for long in range(6):
            for signs in itertools.product("a01-()[] ", repeat=long):
                text = "".join(signs)
                expected = read_by_descent(text)
                if expected is None:
                    self.assertRaises(BadText, read_value, text)
                else:
                    self.assertTrue(same(read_value(text), expected[0]), text)
                    count += 1
        self.assertGreater(count, 100)

    def test_spoilt_texts(self):
        """A sign more, a sign less, or another one: read as the second reader does, or not at all."""
        for seed in range(60):
            chance = random.Random(seed)
            whole = write_value(any_value(chance, 4))
            for _ in range(40):
                at = chance.randrange(len(whole) + 1)
                text = whole[:at] + chance.choice(["", "a", "0", "1", "-", "(", ")", "[", "]", " ", "None", "N"]) + whole[at + chance.randrange(2):]
                expected = read_by_descent(text)
                if expected is None:
                    self.assertRaises(BadText, read_value, text)
                else:
                    self.assertTrue(same(read_value(text), expected[0]), text)

    def test_tables_claims_and_weavings(self):
        pact = example()
        table = read_value(write_value(table_of(pact)))
        self.assertTrue(same(table, table_of(pact)))
        self.assertIs(is_table(pact, table), True)
        claim = read_value("(open left 1)")
        self.assertIs(is_claim(pact, claim), True)
        self.assertIs(is_shown(pact, table, claim), True)
        way = against(pact, ("kept", "a"))
        self.assertEqual(write_value(way), "[(left (set a 2)) (right (hear)) (right (frame a 2)) (left (hear))]")
        self.assertTrue(same(read_value(write_value(way)), way))

    def test_names_of_the_parameters(self):
        self.assertEqual(read_value(text=write_value(value=(1, ["a"]))), (1, ["a"]))

    def test_lists_belong_to_the_caller(self):
        value = [1, [2]]
        self.assertEqual(write_value(value), "[1 [2]]")
        self.assertEqual(value, [1, [2]])
        read_value("[1 [2]]")[1].append(3)
        self.assertEqual(read_value("[1 [2]]"), [1, [2]])


if __name__ == "__main__":
    unittest.main()
