"""[1], [2], [23] Texts of settings, ends, pacts, moves and weavings."""

import itertools
import random
import re
import unittest

from answeredsettings.ends import DEEDS, End
from answeredsettings.errors import BadArgument, BadEnd, BadPact, BadSetting, BadText
from answeredsettings.machine import Machine
from answeredsettings.notes import (
    read_end, read_move, read_pact, read_setting, read_weaving, write_end, write_move, write_pact, write_setting,
    write_weaving,
)
from answeredsettings.pacts import Pact
from answeredsettings.settings import Setting
from answeredsettings.verdicts import is_sound
from samples import ODD, crowded, example, move, size, small_pacts, table, two_at_one, two_way, weaving, wide

EXAMPLE = "most 1\nown a size 3 start 1 hold answered changes 1>2 2>1\nrule back\n--\nmost 1\nuse a heard"
SETTING = "size 3 start 1 hold answered changes 1>2 2>1"
NO_TEXTS = [value for value in ODD if not isinstance(value, str)]
END = "\n".join([
    "most 2", "own a room 2 start 0 hold open changes 0>1", f"own b {SETTING}", "use ca heard", "use d answered",
    "rule set 0,0 1,3", "rule back", "rule answer 3,3", "rule frame 0,1", "rule done 2,0",
])
# Texts that have not the form of a setting, each wrong at one part.
NO_SETTINGS = [
    "", "size", "size 3", "size 3 start", "size 3 start 1", "size 3 start 1 hold", "size 3 start 1 hold answered",
    "size 33 start 1 hold answered changes", "size x start 1 hold answered changes", "size -1 start 1 hold sent changes",
    "size 3 begin 1 hold answered changes", "size 3 start 10 hold answered changes", "size 3 start a hold sent changes",
    "size 3 start 1 held answered changes", "size 3 start 1 hold answered change", "size 3 start 1 hold answered 1>2",
    "size 3 start 1 hold answered changes 1>", "size 3 start 1 hold answered changes >1",
    "size 3 start 1 hold answered changes 1-2", "size 3 start 1 hold answered changes 12",
    "size 3 start 1 hold answered changes 1>22", "size 3 start 1 hold answered changes 1>2,2>1",
    "size 3 start 1 hold answered changes 1 > 2", "size 3 start 1 hold answered changes 1>2>1",
    "size 3 start 1 hold answered changes ", "size 3 start 1 hold answered changes  1>2",
    "size 3 start 1 hold answered changes 1>2 ", "size  3 start 1 hold answered changes",
    "size 3 start 1 hold answered sent changes", "size\t3 start 1 hold answered changes",
    "size 3 start 1 hold answered changes\n", "size 3\nstart 1 hold answered changes", "Size three",
    "size \u0663 start 1 hold answered changes", "size 3 start \u00b2 hold answered changes",
]
# Texts that have the form of a setting but are none, with the part that is wrong.
WRONG_SETTINGS = {
    "sizes 3 start 1 hold answered changes": "sort", "3 3 start 1 hold answered changes": "sort",
    "Size 9 start 9 hold x changes 9>9": "sort", "1>2 3 start 1 hold sent changes": "sort",
    "size 1 start 0 hold sent changes": "size", "size 5 start 1 hold sent changes": "size", "size 0 start 7 hold a changes": "size",
    "size 3 start 3 hold sent changes": "start", "size 2 start 9 hold sent changes 2>0": "start",
    "size 3 start 1 hold sent changes 1>1": "changes", "size 3 start 1 hold no changes 0>3": "changes",
    "size 3 start 1 hold no changes 0>1": "hold", "table 3 start 1 hold open changes 0>1": "hold",
    "room 3 start 1 hold OPEN changes": "hold", "room 3 start 1 hold changes changes": "hold",
}
NO_ROWS = [
    "", " ", "most", "most ", "most 11", "most x", "most 1 1", "most  1", " most 1", "most 1 ", "Most 1", "mosts 1", "own",
    "own A " + SETTING, "own toolongword " + SETTING, "own a1 " + SETTING, "own  " + SETTING, "owns a " + SETTING, "use",
    "use A heard", "use a heard heard", "use a heard ", "use abcdefghi heard", "use  heard", "uses a heard", "rule", "rule set 0",
    "rule set 0,0,0", "rule set 0, 0", "rule set 00,0", "rule set 0,x", "rule set 0.0", "rule set  0,0", "rule set 0,0 ",
    "rule set (0, 0)", "rules set 0,0", "--", "-", "own\ta size", "set 0,0", "most \u0661",
]
NO_MOVES = [
    "", " ", "left", "left ", "right", "left  hear", " left hear", "left hear ", "middle hear", "hear", "left hears", "left set",
    "left set a", "left set a ", "left set a 2 2", "left set 2 a", "left set A 2", "left set a 22", "left set a x",
    "left set a -1", "left frame a", "left frame a 0 0", "left frame toolongword 0", "left done", "left done a 0", "left done 1",
    "left back a", "left answer 1", "left no no", "left frame  0", "Left hear", "left hear;", "left set a 2; right hear",
    "left, hear", "('left', ('hear',))", "left\nhear", "left hear\n", "left set a \u0662", "frame left a 0", "leftright hear",
]


class WriteTest(unittest.TestCase):
    def test_settings(self):
        self.assertEqual(write_setting(size()), SETTING)
        self.assertEqual(
            write_setting(Setting("table", 4, 0, [(3, 1), (0, 2), (0, 1), (0, 2)], "sent")),
            "table 4 start 0 hold sent changes 0>1 0>2 3>1")
        self.assertEqual(write_setting(Setting("room", 2, 1, [], "open")), "room 2 start 1 hold open changes")

    def test_ends(self):
        self.assertEqual(write_end(example().left), EXAMPLE.split("\n--\n")[0])
        self.assertEqual(write_end(End({}, {}, {}, 3)), "most 3")
        rules = {"done": [(2, 0)], "frame": [(0, 1)], "answer": [(3, 3)], "back": [], "set": [(1, 3), (0, 0), (1, 3)]}
        own = {"b": size(), "a": Setting("room", 2, 0, [(0, 1)], "open")}
        self.assertEqual(write_end(End(own, {"d": "answered", "ca": "heard"}, rules, 2)), END)

    def test_deeds_with_the_empty_list_of_pairs_and_with_none(self):
        self.assertEqual(write_end(End({}, {}, {"done": [], "frame": [(0, 0)]}, 1)), "most 1\nrule frame 0,0\nrule done")
        self.assertEqual(write_end(End({}, {}, {}, 1)), "most 1")

    def test_pacts(self):
        self.assertEqual(write_pact(example()), EXAMPLE)
        nothing = End({}, {}, {}, 1)
        self.assertEqual(write_pact(Pact(nothing, End({}, {}, {}, 2))), "most 1\n--\nmost 2")

    def test_moves(self):
        for text in ("left set a 2", "right back", "left answer", "right no", "left frame abcdefgh 3", "right done b", "left hear"):
            self.assertEqual(write_move(move(text)), text)

    def test_weavings(self):
        self.assertEqual(write_weaving([]), "")
        self.assertEqual(write_weaving([("left", ("hear",))]), "left hear")
        text = "left set a 2; right hear; right frame a 2; left hear"
        self.assertEqual(write_weaving(weaving(text)), text)

    def test_values_that_are_no_pact(self):
        for value in ODD + [example().left]:
            with self.assertRaises(BadArgument) as told:
                write_pact(value)
            self.assertIs(told.exception.value, value)


class ReadTest(unittest.TestCase):
    def test_settings(self):
        self.assertEqual(read_setting(SETTING), size())
        self.assertEqual(read_setting("room 2 start 1 hold open changes"), Setting("room", 2, 1, [], "open"))

    def test_changes_in_any_order_and_twice(self):
        self.assertEqual(read_setting("size 3 start 1 hold answered changes 2>1 1>2 2>1"), size())

    def test_ends(self):
        end = read_end(END)
        self.assertEqual((end.words(), end.used_words(), end.most), (["a", "b"], ["ca", "d"], 2))
        self.assertEqual([end.pairs(deed) for deed in DEEDS], [[(0, 0), (1, 3)], [], [(3, 3)], [(0, 1)], [(2, 0)]])
        self.assertEqual((end.use("ca"), end.use("d")), ("heard", "answered"))
        self.assertEqual(end.setting("b"), size())
        self.assertEqual(read_end("most 3"), End({}, {}, {}, 3))

    def test_pairs_in_any_order_and_twice(self):
        self.assertEqual(read_end("most 1\nrule set 1,3 0,0 1,3 0,0").pairs("set"), [(0, 0), (1, 3)])

    def test_rows_in_any_order(self):
        rows = END.split("\n")
        for seed in range(20):
            random.Random(seed).shuffle(rows)
            self.assertEqual(read_end("\n".join(rows)), read_end(END))

    def test_pacts(self):
        self.assertEqual(read_pact(EXAMPLE), example())
        self.assertEqual(read_pact("most 1\n--\nmost 2"), Pact(End({}, {}, {}, 1), End({}, {}, {}, 2)))
        turned = "use a heard\nmost 1\n--\nrule back\nown a " + SETTING + "\nmost 1"
        self.assertEqual(read_pact(turned), Pact(example().right, example().left))

    def test_moves(self):
        self.assertEqual(read_move("left set a 2"), ("left", ("set", "a", 2)))
        self.assertEqual(read_move("right frame abcdefgh 0"), ("right", ("frame", "abcdefgh", 0)))
        self.assertEqual(read_move("left done back"), ("left", ("done", "back")))
        for kind in ("back", "answer", "no", "hear"):
            self.assertEqual(read_move("right " + kind), ("right", (kind,)))
        self.assertIs(read_move("left set a 1")[1][2].__class__, int)

    def test_numbers_are_single_digits(self):
        for digit in range(10):
            self.assertEqual(read_move(f"left frame a {digit}"), ("left", ("frame", "a", digit)))
            self.assertEqual(write_move(("left", ("frame", "a", digit))), f"left frame a {digit}")

    def test_weavings(self):
        self.assertEqual(read_weaving(""), [])
        self.assertEqual(read_weaving("left hear"), [("left", ("hear",))])
        text = "left set a 2; right hear; right frame a 2; left hear"
        self.assertEqual(read_weaving(text), weaving(text))

    def test_what_is_written_is_read(self):
        settings = [
            Setting(kind, many, start, changes, hold)
            for kind, many, hold in itertools.product(("size", "table", "room"), (2, 3, 4), ("sent", "answered", "open"))
            for start in range(many) for changes in ([], [(0, 1)], [(many - 1, 0), (0, 1)])
            if (kind, hold) != ("table", "open")]
        for setting in settings:
            self.assertEqual(read_setting(write_setting(setting)), setting)
        for pact in list(small_pacts().values()) + [crowded(), wide(), two_at_one(), two_way()]:
            self.assertEqual(read_pact(write_pact(pact)), pact)
            self.assertEqual(read_end(write_end(pact.right)), pact.right)
        texts = {write_setting(setting) for setting in settings}
        self.assertEqual(len(texts), len(settings))

    def test_what_is_played_is_read(self):
        for label, pact in list(small_pacts().items()) + [("crowded", crowded())]:
            chance = random.Random(label)
            machine = Machine(pact)
            moves = []
            while len(moves) < 60 and machine.moves():
                for known in machine.moves():
                    self.assertEqual(read_move(write_move(known)), known)
                moves.append(chance.choice(machine.moves()))
                machine(moves[-1])
            self.assertEqual(read_weaving(write_weaving(moves)), moves)

    def test_what_is_read_tells_the_same(self):
        self.assertEqual(is_sound(read_pact(EXAMPLE)), is_sound(example()))


class SpoiltTest(unittest.TestCase):
    def test_settings(self):
        for text in NO_SETTINGS + NO_TEXTS:
            with self.assertRaises(BadText) as told:
                read_setting(text)
            self.assertIs(told.exception.value, text)

    def test_right_texts_of_no_settings(self):
        for text, part in WRONG_SETTINGS.items():
            with self.assertRaises(BadSetting, msg=text) as told:
                read_setting(text)
            self.assertEqual(told.exception.part, part)

    def test_a_form_is_told_ahead_of_a_part(self):
        for text in ("sizes 3 start 1 hold answered changes 1", "sizes 33 start 1 hold answered changes", "size 9 start 9 hold x"):
            self.assertRaises(BadText, read_setting, text)

    def test_rows(self):
        for row in NO_ROWS:
            for text in (f"most 1\n{row}", f"most 1\n{row}\nuse b heard\n--", f"use b heard\n{row}\nmost 1\nmost 1"):
                with self.assertRaises(BadText, msg=row) as told:
                    read_end(text)
                self.assertEqual(told.exception.value, row)
            with self.assertRaises(BadText) as told:
                read_pact(f"most 1\n--\nmost 1\n{row}" if row != "--" else "most 1")
            self.assertEqual(told.exception.value, row if row != "--" else "most 1")

    def test_second_rows(self):
        setting = "room 2 start 0 hold open changes"
        for first, second in (
                ("most 1", "most 1"), ("most 1", "most 2"), (f"own a {setting}", f"own a {SETTING}"), ("use a heard", "use a heard"),
                ("use a heard", "use a answered"), ("rule set 0,0", "rule set"), ("rule done", "rule done")):
            rest = [] if first.startswith("most") else ["most 1"]
            with self.assertRaises(BadText) as told:
                read_end("\n".join(rest + [first, second]))
            self.assertEqual(told.exception.value, second)
        # A second row is told ahead of what its setting is.
        for second in ("own a nothing", "own a sizes 3 start 1 hold sent changes"):
            with self.assertRaises(BadText) as told:
                read_end(f"most 1\nown a {setting}\n{second}")
            self.assertEqual(told.exception.value, second)

    def test_no_row_of_most(self):
        for text in ("use a heard", "rule set 0,0\nuse a heard", "own a " + SETTING):
            with self.assertRaises(BadText) as told:
                read_end(text)
            self.assertEqual(told.exception.value, text)
            with self.assertRaises(BadText) as told:
                read_pact("most 1\n--\n" + text)
            self.assertEqual(told.exception.value, text)
        self.assertRaises(BadText, read_end, "")

    def test_no_texts(self):
        for value in NO_TEXTS:
            for read in (read_setting, read_end, read_pact, read_move, read_weaving):
                with self.assertRaises(BadText) as told:
                    read(value)
                self.assertIs(told.exception.value, value)

    def test_a_setting_within_an_end(self):
        for text in NO_SETTINGS:
            if text and "\n" not in text and not text.startswith(" "):
                with self.assertRaises(BadText) as told:
                    read_end(f"most 1\nown b {SETTING}\nown a {text}")
                self.assertEqual(told.exception.value, text)
        for text, part in WRONG_SETTINGS.items():
            with self.assertRaises(BadSetting) as told:
                read_end(f"own a {text}\nmost 1\nuse a heard\nmosts")
            self.assertEqual(told.exception.part, part)

    def test_right_texts_of_no_ends(self):
        room = "room 2 start 0 hold open changes"
        for text, part in (
                ("most 0", "most"), ("most 4", "most"), ("most 9\nrule set 4,0", "rules"), ("most 1\nrule sets 0,0", "rules"),
                ("most 1\nrule set 0,9", "rules"), ("most 1\nuse a never", "uses"), ("most 1\nuse a heard\nuse b heard\nuse c heard", "uses"),
                (f"most 1\nuse a heard\nown a {SETTING}", "uses"), (f"most 9\nown a {room}\nown b {room}\nuse c x", "settings"),
                ("\n".join(["most 1", "use d x"] + [f"own {word} {SETTING}" for word in "abc"]), "settings"),
                ("most 1\nrule SET", "rules"), ("most 1\nrule most 0,0", "rules"), ("most 1\nuse a HEARD\nrule x", "uses")):
            with self.assertRaises(BadEnd, msg=text) as told:
                read_end(text)
            self.assertEqual(told.exception.part, part)

    def test_rows_are_read_one_after_another(self):
        """A setting is made when its row is read, an end behind its rows, the left end ahead of the right one."""
        wrong = "own a size 1 start 0 hold sent changes"
        for text in (f"{wrong}\nnothing", f"{wrong}", f"most 9\n{wrong}\nmost 9"):
            self.assertRaises(BadSetting, read_end, text)
        self.assertRaises(BadText, read_end, f"nothing\n{wrong}")
        self.assertRaises(BadText, read_end, "most 9\nrule foo\nnothing")
        self.assertRaises(BadEnd, read_pact, "most 9\n--\nnothing")
        self.assertRaises(BadSetting, read_pact, f"most 1\n{wrong}\n--\nnothing")
        self.assertRaises(BadText, read_pact, f"nothing\n--\nmost 1\n{wrong}")
        self.assertRaises(BadText, read_pact, f"use a heard\n--\nmost 1\n{wrong}")
        self.assertRaises(BadSetting, read_pact, f"most 1\nuse a heard\n--\nmost 9\n{wrong}")
        self.assertRaises(BadEnd, read_pact, "most 1\nuse a heard\n--\nmost 9")

    def test_pacts_that_are_not_made_of_two_ends(self):
        for text in ("most 1", "most 1\nmost 1", "", "nothing", EXAMPLE + "\n--\nmost 1", "most 1\n---\nmost 1", "most 1 -- most 1",
                     "most 1\n-- \nmost 1", f"most 1\nown a {SETTING[:5]}\n--\nmost 1\n--\nmost 1", "most 9\n--\nmost 1\n--\nmost 1"):
            with self.assertRaises(BadText) as told:
                read_pact(text)
            self.assertEqual(told.exception.value, text)

    def test_right_texts_of_no_pacts(self):
        for text in (EXAMPLE + "\nuse b heard", EXAMPLE.replace("use a", "use b"), f"most 1\nown a {SETTING}\n--\nmost 1",
                     f"most 1\nown a {SETTING}\n--\nmost 1\nown a {SETTING}"):
            with self.assertRaises(BadPact) as told:
                read_pact(text)
            self.assertEqual(told.exception.part, "words")

    def test_moves(self):
        for text in NO_MOVES + NO_TEXTS:
            with self.assertRaises(BadText) as told:
                read_move(text)
            self.assertIs(told.exception.value, text)

    def test_weavings(self):
        for text in NO_MOVES:
            if text != "left set a 2; right hear":
                for whole in (f"left hear; {text}", f"left hear; {text}; nothing", f"right back; {text}; left hear"):
                    with self.assertRaises(BadText) as told:
                        read_weaving(whole)
                    self.assertEqual(told.exception.value, text)
        for whole, first in (("left hear;right hear", "left hear;right hear"), ("left hear; ", ""), ("; left hear", ""), (";", ";"),
                             ("left hear; ; left hear", ""), ("left hear;  left hear", " left hear"), (" ", " ")):
            with self.assertRaises(BadText) as told:
                read_weaving(whole)
            self.assertEqual(told.exception.value, first)

    def test_each_sign_of_a_text(self):
        """A text with a sign left out, or another one, is read as nothing else than what it writes."""
        for at, sign in enumerate(EXAMPLE):
            for other in ("", "x", " ", "\n", "-", "9", "2"):
                text = EXAMPLE[:at] + other + EXAMPLE[at + 1:]
                try:
                    pact = read_pact(text)
                except (BadText, BadSetting, BadEnd, BadPact):
                    continue
                self.assertEqual(sorted(write_pact(pact).split("\n")), sorted(text.split("\n")), (at, sign, other))

    def test_each_sign_of_a_weaving(self):
        whole = "left set a 2; right hear; right frame a 2; left done b"
        for at in range(len(whole)):
            for other in ("", "x", " ", ";", "9"):
                text = whole[:at] + other + whole[at + 1:]
                rows = text.split("; ")
                rights = [re.fullmatch("(left|right) (hear|(set|frame) [a-z]{1,8} [0-9]|done [a-z]{1,8})", row) for row in rows]
                if all(rights):
                    self.assertEqual(write_weaving(read_weaving(text)), text)
                else:
                    with self.assertRaises(BadText) as told:
                        read_weaving(text)
                    self.assertEqual(told.exception.value, rows[rights.index(None)])


class CallsTest(unittest.TestCase):
    def test_names_of_the_parameters(self):
        self.assertEqual(write_setting(setting=size()), SETTING)
        self.assertEqual(read_setting(text=SETTING), size())
        self.assertEqual(read_end(text=write_end(end=example().right)), example().right)
        self.assertEqual(read_pact(text=write_pact(pact=example())), example())
        self.assertEqual(read_move(text=write_move(move=move("left hear"))), move("left hear"))
        self.assertEqual(read_weaving(text=write_weaving(weaving=weaving("left hear; left back"))), weaving("left hear; left back"))

    def test_lists_belong_to_the_caller(self):
        moves = weaving("left hear; left back")
        text = write_weaving(moves)
        self.assertEqual(moves, weaving("left hear; left back"))
        read_weaving(text).clear()
        self.assertEqual(read_weaving(text), moves)

    def test_written_in_any_order_of_words(self):
        left = End({"b": size(), "a": table()}, {}, {}, 1)
        other = End({"a": table(), "b": size()}, {}, {}, 1)
        self.assertEqual(write_end(left), write_end(other))


if __name__ == "__main__":
    unittest.main()
