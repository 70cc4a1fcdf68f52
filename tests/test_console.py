"""[1], [2], [24] The console: rows, answers, and what is as before after an error."""

import random
import unittest
from unittest import mock

import stepping
from answeredsettings import spaces
from answeredsettings.console import Console
from answeredsettings.ends import DEEDS, End
from answeredsettings.errors import (
    BadArgument, BadEnd, BadMove, BadPact, BadSetting, BadText, NothingLeft, NoRow, PactError, TooMany,
)
from answeredsettings.machine import Machine, played
from answeredsettings.notes import read_pact, read_weaving, write_move, write_pact
from answeredsettings.pacts import NAMES, Pact
from answeredsettings.sessions import Session
from answeredsettings.values import read_value
from answeredsettings.verdicts import offences
from answeredsettings.waits import first_stuck, greatest_wait
from graphs import each
from samples import ODD, crowded, example, one_way, room, size, small_pacts, two_way
from test_notes import NO_MOVES, NO_ROWS
from test_waits import silent

EXAMPLE = "most 1 / own a size 3 start 1 hold answered changes 1>2 2>1 / rule back / -- / most 1 / use a heard"
# Rows that are none, by what is wrong with them.
NO_CONSOLE_ROWS = [
    "", " ", "undo ", " undo", "undo undo", "Undo", "undos", "undo\n", "undo 1", "offences ", "offences a", "offence", "offences\n",
    "verdicts now", "verdict", "verdicts ", "stuck left", "stuck ", "stuck\n", "play", "pact\n", "pact ab\n", "play left hear\n",
    "play left\nhear", "pact most 1\n--\nmost 1", "moves", "moves ", "moves left ", "moves  left", "moves left right", "moves middle",
    "moves Left", "moves a", "moves\tleft", "moves left\n", "wait", "wait ", "wait left 1", "wait middle", " wait left", "wait  left",
    "rule", "rule left", "rule left ", "rule left sets", "rule middle set", "rule middle set 0,0", "rule left no 0,0", "rule left set ",
    "rule left set  0,0", "rule  left set 0,0", "rule left  set 0,0", "rule left set 0,0 ", " rule left set 0,0", "rule left set 0",
    "rule left set 00", "rule left set 0,0,0", "rule left set 0,", "rule left set ,0", "rule left set 10,0", "rule left set 0,x",
    "rule left set (0,0)", "rule left set 0,0 any", "rule left set none", "rule left set 0, 0", "rule left set 0,0\n", "rule set left 0,0",
    "rules left set 0,0", "rule left set 0,0  1,0", "rule left set -1,0", "rule left set 0.0", "rule left set \u0661,0", "any", "any left",
    "any left set 0,0", "any left set ", "any left no", "any middle set", "any  left set", "any set left", "Any left set", "any left set\n",
    "try", "try ", "try undo", "try offences", "try rule", "try rule left", "try rule left set 0", "try any left", "try  any left set",
    "try any left set ", "try any left set 0,0", "try try any left set", "try pact " + EXAMPLE, "try rule middle set 0,0", "tries any left set",
    "try play left hear", "try any left set\n", "help", "quit", "say offences", "moves left; moves right", "PACT",
]


def told_of(console):
    """All that a console has, and what it answers."""
    return (console.session.present, len(console.session), console.session.standing(), console.machine.pact, console.machine.state,
            console.machine.verdicts())


class RowsTest(unittest.TestCase):
    def test_example(self):
        self.assertEqual(Console(example()).say("offences"), "(a 2 1 refused)")
        self.assertEqual(Console(example()).say("try rule right frame 0,0 1,0"), "none")
        self.assertEqual(Console(example()).say("moves left"), "left set a 2")

    def test_a_new_console(self):
        pact = example()
        console = Console(pact)
        self.assertIsInstance(console.session, Session)
        self.assertIsInstance(console.machine, Machine)
        self.assertIs(console.session.present, pact)
        self.assertIs(console.machine.pact, pact)
        self.assertEqual(len(console.session), 0)

    def test_rule_and_any(self):
        console = Console(example())
        self.assertEqual(console.say("rule right frame 1,0 0,0 1,0"), "ok")
        self.assertEqual(console.session.present.right.pairs("frame"), [(0, 0), (1, 0)])
        self.assertEqual(console.say("offences"), "none")
        self.assertEqual(console.say("any right frame"), "ok")
        self.assertEqual(console.session.present, example())
        self.assertEqual(console.say("rule left set"), "ok")
        self.assertEqual(console.session.present.left.pairs("set"), [])
        self.assertEqual((console.say("moves left"), len(console.session)), ("none", 3))
        for deed in DEEDS:
            for name in NAMES:
                self.assertEqual(console.say(f"rule {name} {deed} 3,3 0,1"), "ok")
                self.assertEqual(console.session.present.end(name).pairs(deed), [(0, 1), (3, 3)])
                self.assertEqual(console.say(f"any {name} {deed}"), "ok")
                self.assertIsNone(console.session.present.end(name).pairs(deed))

    def test_pact(self):
        console = Console(two_way())
        self.assertEqual(console.say("pact " + EXAMPLE), "ok")
        self.assertEqual(console.session.present, example())
        self.assertEqual(console.say("pact"), EXAMPLE)
        self.assertEqual(console.say("undo"), "ok")
        self.assertEqual(console.session.present, two_way())
        for pact in list(small_pacts().values()) + [crowded()]:
            text = write_pact(pact).replace("\n", " / ")
            self.assertEqual(console.say("pact " + text), "ok")
            self.assertEqual((console.say("pact"), console.session.present, console.machine.pact), (text, pact, pact))

    def test_undo(self):
        console = Console(example())
        console.say("rule left set")
        console.say("any left back")
        self.assertEqual(console.say("undo"), "ok")
        self.assertEqual(console.session.present.left.pairs("back"), [])
        self.assertEqual(console.say("undo"), "ok")
        self.assertEqual(console.say("pact"), EXAMPLE)
        self.assertRaises(NothingLeft, console.say, "undo")

    def test_a_new_machine_stands_at_the_start(self):
        for row in ("rule right frame 0,0", "any left back", "pact " + EXAMPLE, "undo"):
            console = Console(example())
            console.say("rule right back")
            for move in ("left set a 2", "right hear", "right frame a 2", "left hear"):
                console.say("play " + move)
            self.assertEqual(console.say("verdicts"), "(a 2 1 refused)")
            machine = console.machine
            self.assertEqual(console.say(row), "ok")
            self.assertIsNot(console.machine, machine)
            self.assertEqual(console.machine.state, Machine(console.session.present).state)
            self.assertIs(console.machine.pact, console.session.present)
            self.assertEqual(console.say("verdicts"), "none")

    def test_other_rows_leave_the_machine(self):
        console = Console(example())
        console.say("play left set a 2")
        before, machine = told_of(console), console.machine
        for row in ("offences", "try rule right frame 0,0", "try any left back", "pact", "verdicts", "moves left", "stuck", "wait left"):
            console.say(row)
            self.assertEqual(told_of(console), before)
            self.assertIs(console.machine, machine)

    def test_try(self):
        console = Console(example())
        self.assertEqual(console.say("try rule right frame"), "none")
        self.assertEqual(console.say("try rule right frame 0,1"), "(a 2 1 refused)")
        self.assertEqual(console.say("try any right frame"), "(a 2 1 refused)")
        self.assertEqual(console.say("try rule left set"), "none")
        self.assertEqual(told_of(console), told_of(Console(example())))
        console = Console(one_way(size([(1, 2), (2, 0)], "sent"), "heard", {"set": [], "back": []}))
        self.assertEqual(console.say("offences"), "none")
        self.assertEqual(console.say("try any left set"), "(a 1 0 refused); (a 2 0 refused)")

    def test_offences(self):
        for pact in small_pacts().values():
            told = Console(pact).say("offences")
            found = [] if told == "none" else [read_value(text) for text in told.split("; ")]
            self.assertEqual(found, offences(pact))

    def test_play(self):
        console = Console(example())
        self.assertEqual(console.say("play left set a 2"), "ok")
        self.assertEqual(console.say("play right hear"), "ok")
        self.assertEqual(console.say("play right frame a 2"), "ok")
        self.assertEqual(console.say("play left hear"), "(a 2 1 refused)")
        self.assertEqual(console.say("play right frame a 0"), "ok")
        self.assertEqual(console.say("play left hear"), "(a 0 1 kept)")
        self.assertEqual(console.say("verdicts"), "(a 2 1 refused); (a 0 1 kept)")
        console.say("play right frame a 0")
        console.say("play left hear")
        self.assertEqual(console.say("verdicts"), "(a 2 1 refused); (a 0 1 kept); (a 0 1 kept)")
        self.assertEqual(console.machine.local("left")[1], (("a", 2, 0),))

    def test_moves(self):
        console = Console(example())
        self.assertEqual(console.say("moves right"), "right frame a 0; right frame a 1")
        console.say("play left set a 2")
        self.assertEqual(console.say("moves left"), "none")
        self.assertEqual(console.say("moves right"), "right frame a 0; right frame a 1; right hear")

    def test_all_moves_are_played(self):
        for label, pact in small_pacts().items():
            chance = random.Random(label)
            console, machine = Console(pact), Machine(pact)
            for _ in range(25):
                rows = [text for name in NAMES for text in console.say("moves " + name).split("; ") if text != "none"]
                self.assertEqual(rows, [write_move(move) for move in machine.moves()])
                if not rows:
                    break
                text = chance.choice(rows)
                verdict = machine(read_weaving(text)[0])
                told = console.say("play " + text)
                self.assertEqual(None if told == "ok" else read_value(told), verdict)
            self.assertEqual(console.machine.state, machine.state)

    def test_stuck(self):
        console = Console(silent())
        self.assertEqual(console.say("stuck"), "left set a 2; right hear")
        self.assertEqual(Console(example()).say("stuck"), "none")
        for pact in small_pacts().values():
            told, way = Console(pact).say("stuck"), first_stuck(pact)
            self.assertEqual(told == "none", way is None)
            if way is not None:
                self.assertEqual(read_weaving(told), way)

    def test_wait(self):
        console = Console(example())
        self.assertEqual([console.say("wait left"), console.say("wait right")], ["3", "0"])
        self.assertEqual(Console(silent()).say("wait left"), "none")
        for pact in small_pacts().values():
            for name in NAMES:
                many = greatest_wait(pact, name)
                self.assertEqual(Console(pact).say("wait " + name), "none" if many is None else str(many))

    def test_what_the_second_stepping_tells(self):
        """The offences of all states gone through, now and behind a rule that is tried."""
        for label, pact, rows, _ in each():
            found = {row[2] for state in rows for row in rows[state] if row[2] is not None and row[2][3] != "kept"}
            expected = "; ".join(sorted(f"({word} {number} {judged} {fate})" for word, number, judged, fate in found)) or "none"
            self.assertEqual(Console(pact).say("offences"), expected, label)
            if len(rows) < 700:
                tried = pact.with_end("right", pact.right.with_pairs("frame", [(0, 0)]))
                graph = stepping.graph(tried)
                found = {row[2] for state in graph for row in graph[state] if row[2] is not None and row[2][3] != "kept"}
                expected = "; ".join(sorted(f"({word} {number} {judged} {fate})" for word, number, judged, fate in found)) or "none"
                self.assertEqual(Console(pact).say("try rule right frame 0,0"), expected, label)


class ErrorsTest(unittest.TestCase):
    def assert_raises(self, console, row, error, field=None, value=None):
        before, machine = told_of(console), console.machine
        with self.assertRaises(error, msg=row) as told:
            console.say(row)
        self.assertIs(told.exception.__class__, error)
        if field is not None:
            self.assertEqual(getattr(told.exception, field), value)
        self.assertEqual(told_of(console), before)
        self.assertIs(console.machine, machine)

    def console(self):
        console = Console(example())
        console.say("rule left answer")
        console.say("play right frame a 1")
        console.say("play left hear")
        return console

    def test_values_that_are_no_pact(self):
        for value in ODD + [example().left]:
            with self.assertRaises(BadArgument) as told:
                Console(value)
            self.assertIs(told.exception.value, value)

    def test_values_that_are_no_row(self):
        console = self.console()
        before = told_of(console)
        for value in NO_CONSOLE_ROWS + ODD:
            with self.assertRaises(NoRow, msg=value) as told:
                console.say(value)
            self.assertIs(told.exception.row, value)
            self.assertEqual(told_of(console), before)

    def test_moves_that_cannot_be_read(self):
        for text in NO_MOVES:
            if "\n" not in text:
                # What stands behind the first blank is handed on as it is, also the empty text.
                self.assert_raises(self.console(), "play " + text, BadText, "value", text)
        self.assert_raises(self.console(), "play ", BadText, "value", "")

    def test_moves_that_cannot_be_made(self):
        for text, letter in (("left set a 1", ("set", "a", 1)), ("left hear", ("hear",)), ("right answer", ("answer",)),
                             ("right frame a 9", ("frame", "a", 9)), ("left frame a 0", ("frame", "a", 0))):
            self.assert_raises(self.console(), "play " + text, BadMove, "value", (text.split(" ")[0], letter))

    def test_pacts_that_cannot_be_read(self):
        for text in ("", "nothing", "most 1", EXAMPLE + " / -- / most 1", "pact", " ", EXAMPLE.replace(" / ", "/")):
            self.assert_raises(self.console(), "pact " + text, BadText, "value", text.replace(" / ", "\n"))
        for row in NO_ROWS:
            if row != "--" and "\n" not in row:
                self.assert_raises(self.console(), f"pact {row} / most 1 / -- / most 1", BadText)
        self.assert_raises(self.console(), "pact most 1 / rows / -- / most 1", BadText, "value", "rows")
        self.assert_raises(self.console(), "pact most 1 / own a b / -- / most 1", BadText, "value", "b")
        self.assert_raises(self.console(), "pact most 1 / most 1", BadText, "value", "most 1\nmost 1")
        self.assert_raises(self.console(), "pact most 4 / -- / most 1", BadEnd, "part", "most")
        self.assert_raises(self.console(), "pact " + EXAMPLE.replace("size", "sizes"), BadSetting, "part", "sort")
        self.assert_raises(self.console(), "pact " + EXAMPLE.replace("use a", "use b"), BadPact, "part", "words")

    def test_pairs_of_numbers_that_are_too_great(self):
        for row in ("rule left set 0,4", "rule left set 0,0 9,9", "try rule right frame 4,0"):
            self.assert_raises(self.console(), row, BadEnd, "part", "rules")

    def test_nothing_left(self):
        console = Console(example())
        console.say("play left set a 2")
        self.assert_raises(console, "undo", NothingLeft)

    def test_too_many(self):
        console = Console(crowded())
        console.say("play left set a 2")
        for row in ("offences", "stuck", "wait left", "wait right", "try any left set", "try rule left done 0,0"):
            self.assert_raises(console, row, TooMany, "limit", 30000)
        # What is wrong with a row is told ahead of too many states.
        self.assert_raises(console, "wait middle", NoRow, "row", "wait middle")
        self.assert_raises(console, "try rule left set 7,7", BadEnd, "part", "rules")

    def test_which_search_for_states(self):
        with mock.patch.object(spaces, "LIMIT", 0):
            console = Console(example())
            for row in ("rule left set 0,0", "any left set", "pact " + EXAMPLE, "undo", "pact", "play left set a 2", "verdicts", "moves left"):
                console.say(row)
            for row in ("offences", "stuck", "wait left", "try any left set"):
                self.assert_raises(console, row, TooMany)

    def test_rows_at_random(self):
        """After each row that raises all is as before, and the machine is always one of the present pact."""
        rows = NO_CONSOLE_ROWS + ["undo", "rule left set", "rule left back 0,1", "any left set", "pact " + EXAMPLE, "play left set a 2",
                                  "play right hear", "play right answer", "play left hear", "play right frame a 0", "try any left back",
                                  "offences", "moves left", "wait left", "stuck", "pact", "verdicts"] * 8
        for seed in range(3):
            chance = random.Random(seed)
            console = Console(example())
            for _ in range(150):
                row, before = chance.choice(rows), told_of(console)
                try:
                    told = console.say(row)
                    self.assertIsInstance(told, str)
                except PactError:
                    self.assertEqual(told_of(console), before)
                self.assertIs(console.machine.pact, console.session.present)

    def test_names_of_the_parameters(self):
        self.assertEqual(Console(pact=example()).say(row="moves left"), "left set a 2")


class SpokenTest(unittest.TestCase):
    def test_rooms_and_tables(self):
        console = Console(one_way(room([(1, 0)], "sent", 2), "heard", {"back": []}))
        for text in ("right frame a 0", "left set a 0"):
            self.assertEqual(console.say("play " + text), "ok")
        self.assertEqual(console.say("play left hear"), "(a 1 0 passed)")
        self.assertEqual(console.say("offences"), "(a 1 0 passed)")
        self.assertEqual(console.say("moves right"), "right hear")
        self.assertEqual(played(console.session.present, read_weaving("right frame a 0; left set a 0")).lane("left"),
                         [("frame", "a", 0)])

    def test_a_long_talk(self):
        console = Console(Pact(End({}, {}, {}, 1), End({}, {}, {}, 1)))
        self.assertEqual([console.say("moves left"), console.say("stuck"), console.say("wait left"), console.say("verdicts")],
                         ["none", "none", "0", "none"])
        self.assertEqual(console.say("pact"), "most 1 / -- / most 1")
        console.say("pact " + EXAMPLE)
        console.say("rule right frame 0,0")
        console.say("any right frame")
        self.assertEqual(console.say("pact"), EXAMPLE)
        for _ in range(3):
            console.say("undo")
        self.assertEqual(console.say("pact"), "most 1 / -- / most 1")
        self.assertEqual(read_pact(console.say("pact").replace(" / ", "\n")), console.session.present)


if __name__ == "__main__":
    unittest.main()
