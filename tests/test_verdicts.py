"""[1], [2], [8], [12] What befalls frames."""

import unittest

from answeredsettings.ends import End
from answeredsettings.errors import BadArgument, BadName, TooMany
from answeredsettings.machine import played
from answeredsettings.pacts import Pact
from answeredsettings.verdicts import is_sound, offences, verdicts, weaving_with
from oracle import explored
from samples import ODD, Picky, crowded, example, one_way, room, size, small_pacts, table, two_at_one, two_way, weaving


def fates(make, hold, use, changes=((1, 2), (2, 1))):
    """The offences, as (number, judged)."""
    return [verdict[1:3] for verdict in offences(one_way(make(changes, hold), use, {"back": []}))]


class VerdictsTest(unittest.TestCase):
    def test_example(self):
        told = [
            ("a", 0, 1, "kept"), ("a", 0, 2, "kept"), ("a", 1, 1, "kept"), ("a", 1, 2, "kept"), ("a", 2, 1, "refused"),
            ("a", 2, 2, "kept"),
        ]
        self.assertEqual(verdicts(example(), "a"), told)
        self.assertEqual(verdicts(pact=example(), word="a"), told)
        self.assertEqual((offences(pact=example()), is_sound(pact=example())), ([("a", 2, 1, "refused")], False))

    def test_sizes(self):
        self.assertEqual(fates(size, "sent", "heard"), [(2, 1)])
        self.assertEqual(fates(size, "sent", "answered"), [(2, 1)])
        self.assertEqual(fates(size, "answered", "heard"), [(2, 1)])
        self.assertEqual(fates(size, "answered", "answered"), [])
        self.assertEqual(fates(size, "open", "heard"), [])
        self.assertEqual(fates(size, "open", "answered"), [])
        self.assertEqual(fates(size, "sent", "heard", [(1, 2)]), [])
        self.assertEqual(fates(size, "answered", "heard", [(1, 0)]), [])
        self.assertEqual(fates(size, "sent", "heard", [(1, 0)]), [(1, 0)])

    def test_tables(self):
        self.assertEqual(fates(table, "sent", "heard"), [(1, 2), (2, 1)])
        self.assertEqual(fates(table, "sent", "answered"), [(1, 2), (2, 1)])
        self.assertEqual(fates(table, "answered", "heard"), [(1, 2), (2, 1)])
        self.assertEqual(fates(table, "answered", "answered"), [])
        garbled = one_way(table(hold="sent"), "heard")
        self.assertEqual(offences(garbled), [("a", 1, 2, "garbled"), ("a", 2, 1, "garbled")])

    def test_rooms(self):
        self.assertEqual(fates(room, "sent", "heard"), [(2, 1)])
        self.assertEqual(fates(room, "answered", "heard"), [(2, 1)])
        self.assertEqual(fates(room, "answered", "answered"), [])
        self.assertEqual(fates(room, "open", "heard"), [])
        self.assertEqual(fates(room, "sent", "heard", [(1, 0)]), [(1, 0)])
        self.assertEqual(offences(one_way(room([(1, 0)], "sent"), "heard")), [("a", 1, 0, "passed")])
        self.assertEqual(
            verdicts(one_way(room(start=2, changes=[]), "heard"), "a"), [("a", 1, 2, "kept"), ("a", 2, 2, "kept")])

    def test_a_full_room_of_four(self):
        pact = one_way(room([], many=4, start=3), "heard")
        self.assertEqual([verdict[1] for verdict in verdicts(pact, "a")], [1, 2, 3])

    def test_no_frames(self):
        self.assertEqual(verdicts(one_way(room([], start=0), "heard"), "a"), [])
        barred = one_way(size(), "heard", {}, {"frame": []})
        self.assertEqual((verdicts(barred, "a"), offences(barred), is_sound(barred)), ([], [], True))
        nothing = Pact(End({}, {}, {}, 1), End({}, {}, {}, 1))
        self.assertEqual((offences(nothing), is_sound(nothing)), ([], True))

    def test_rules_make_sound(self):
        self.assertFalse(is_sound(one_way(size(), "heard", {"back": []})))
        self.assertTrue(is_sound(one_way(size(), "heard", {"back": []}, {"frame": [(0, 0)]}, most=1)))

    def test_each_setting_for_itself(self):
        for pact in (two_way(), two_at_one()):
            everything = []
            for word in pact.words():
                told = verdicts(pact, word)
                self.assertEqual({verdict[0] for verdict in told}, {word})
                everything += told
            self.assertEqual(offences(pact), sorted([one for one in everything if one[3] != "kept"], key=str))

    def test_just_the_verdicts_that_the_second_player_meets(self):
        for name, pact in small_pacts().items():
            with self.subTest(name=name):
                _, known = explored(pact)
                told = [verdict for word in pact.words() for verdict in verdicts(pact, word)]
                self.assertEqual(sorted(told), sorted(known))
                self.assertEqual(offences(pact), sorted([one for one in known if one[3] != "kept"], key=str))
                self.assertEqual(is_sound(pact), not offences(pact))
                for verdict in told:
                    moves = weaving_with(pact, verdict)
                    self.assertEqual(len(moves), known[verdict])
                    self.assertEqual(played(pact, moves[:-1]).copied()(moves[-1]), verdict)
                    self.assertEqual(weaving_with(pact, verdict), moves)

    def test_any_number_of_frames_under_way(self):
        """[1] No frame of a machine has a verdict that is not told."""
        for name, pact in small_pacts().items():
            with self.subTest(name=name):
                told = {word: verdicts(pact, word) for word in pact.words()}
                for verdict in explored(pact, 6, watched=False)[1]:
                    self.assertIn(verdict, told[verdict[0]])

    def test_lists_are_in_order_and_belong_to_the_caller(self):
        for pact in small_pacts().values():
            for word in pact.words():
                told = verdicts(pact, word)
                self.assertEqual(told, sorted(set(told), key=str))
        pact = example()
        verdicts(pact, "a").clear()
        offences(pact).clear()
        self.assertEqual((len(verdicts(pact, "a")), len(offences(pact))), (6, 1))


class WeavingWithTest(unittest.TestCase):
    def test_example(self):
        told = weaving_with(pact=example(), verdict=("a", 2, 1, "refused"))
        self.assertEqual(told, weaving("left set a 2; right hear; right frame a 2; left hear"))

    def test_none(self):
        for verdict in (("a", 0, 0, "kept"), ("a", 1, 0, "refused"), ("a", 2, 0, "refused")):
            self.assertIsNone(weaving_with(example(), verdict))
        pact = one_way(room(start=2), "heard", {"back": []})
        self.assertIsNone(weaving_with(pact, ("a", 3, 2, "passed")))
        self.assertIsNone(weaving_with(pact, ("a", 1, 0, "passed")))
        self.assertEqual(len(weaving_with(pact, ("a", 2, 2, "kept"))), 4)

    def test_a_verdict_at_the_start(self):
        self.assertEqual(weaving_with(example(), ("a", 1, 1, "kept")), weaving("right frame a 1; left hear"))

    def test_no_verdicts(self):
        wrong = ODD + [
            ("a", 1, 1), ("a", 1, 1, "kept", 0), ["a", 1, 1, "kept"], ("b", 1, 1, "kept"), ("a", 3, 1, "refused"),
            ("a", -1, 1, "kept"), ("a", 1, 3, "kept"), ("a", 1, -1, "refused"), ("a", 2, 1, "kept"), ("a", 1, 1, "refused"),
            ("a", 2, 1, "garbled"), ("a", 2, 1, "passed"), ("a", 1, 1, None), ("a", True, 1, "kept"), ("a", 1, True, "kept"),
            ("a", 1.0, 1, "kept"), ("a", 1, 1.0, "kept"), ("a", "1", 1, "kept"), (["a"], 1, 1, "kept"), (None, 1, 1, "kept"),
            ("a", 1, 1, ["kept"]), ("a", 1, 1, Picky()), (Picky(), 1, 1, "kept"), ("a", Picky(), 1, "kept"),
            ("a", 1, Picky(), "kept"), ("a", None, None, None), "a11kept",
        ]
        for value in wrong:
            with self.assertRaises(BadArgument) as told:
                weaving_with(example(), value)
            self.assertIs(told.exception.value, value)

    def assert_form(self, pact, verdict, right):
        if right:
            weaving_with(pact, verdict)
        else:
            with self.assertRaises(BadArgument):
                weaving_with(pact, verdict)

    def test_form_by_sort(self):
        for make, low in ((size, 0), (table, 0), (room, 1)):
            pact = one_way(make(), "heard")
            for number in range(-1, 5):
                for judged in range(-1, 5):
                    for fate in ("kept", "refused", "garbled", "passed", "no"):
                        told = {size: "refused" if number > judged else "kept", table: "garbled" if number != judged else "kept",
                                room: "passed" if number > judged else "kept"}[make]
                        right = low <= number < low + 3 and 0 <= judged < 3 and fate == told
                        self.assert_form(pact, ("a", number, judged, fate), right)


class ErrorsTest(unittest.TestCase):
    def test_values_that_are_no_pact(self):
        for value in ODD + [example().left]:
            for call in (lambda: verdicts(value, "a"), lambda: verdicts(value, None), lambda: offences(value),
                         lambda: is_sound(value), lambda: weaving_with(value, None),
                         lambda: weaving_with(value, ("a", 1, 1, "kept"))):
                with self.assertRaises(BadArgument) as told:
                    call()
                self.assertIs(told.exception.value, value)

    def test_values_that_are_no_word(self):
        for value in ODD + ["b", "left", "aa"]:
            with self.assertRaises(BadName) as told:
                verdicts(example(), value)
            self.assertIs(told.exception.value, value)

    def test_too_many(self):
        pact = crowded()
        for call in (lambda: verdicts(pact, "a"), lambda: offences(pact), lambda: is_sound(pact),
                     lambda: weaving_with(pact, ("a", 1, 1, "kept"))):
            with self.assertRaises(TooMany) as told:
                call()
            self.assertEqual(told.exception.limit, 30000)

    def test_other_errors_come_ahead_of_too_many(self):
        for value in (None, "e", ["a"]):
            with self.assertRaises(BadName):
                verdicts(crowded(), value)
        for value in (None, ("a", 1, 1, "refused"), ["a", 1, 1, "kept"], ("e", 1, 1, "kept")):
            with self.assertRaises(BadArgument):
                weaving_with(crowded(), value)


if __name__ == "__main__":
    unittest.main()
