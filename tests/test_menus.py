"""[1], [2], [11], [17] Least and greatest rules."""

import itertools
import unittest
from unittest import mock

import stepping
from answeredsettings import spaces
from answeredsettings.claims import holds
from answeredsettings.ends import DEEDS, End
from answeredsettings.errors import BadArgument, BadChange, BadClaim, BadMenu, TooMany
from answeredsettings.menus import greatest_let_in, least_taken_out, let_in, taken_out
from answeredsettings.pacts import Pact
from answeredsettings.search import states
from answeredsettings.states import first_state
from answeredsettings.verdicts import is_sound
from samples import ODD, Picky, crowded, example, one_way, room, size, table, two_way
from test_claims import fewest_against

ALL = [(opened, owed) for opened in range(4) for owed in range(4)]
SET, LATE, EARLY = ("left", "set", (0, 0)), ("right", "frame", (0, 1)), ("right", "frame", (0, 0))
ANSWER, BACK = ("right", "answer", (0, 1)), ("left", "back", (1, 0))
MENU = [SET, LATE, EARLY, ANSWER]


def changed(pact, items, out):
    """The pact with some items taken out, or let in, made anew from its parts."""
    ends = []
    for name in ("left", "right"):
        end = pact.end(name)
        rules = {}
        for deed in DEEDS:
            mine = {pair for one, other, pair in items if (one, other) == (name, deed)}
            pairs = end.pairs(deed)
            if pairs is None and (not out or not mine):
                continue
            known = set(ALL if pairs is None else pairs)
            rules[deed] = sorted(known - mine if out else known | mine)
        settings = {word: end.setting(word) for word in end.words()}
        ends.append(End(settings, {word: end.use(word) for word in end.used_words()}, rules, end.most))
    return Pact(*ends)


def choices(menu):
    return [choice for many in range(len(menu) + 1) for choice in itertools.combinations(range(len(menu)), many)]


def all_hold(pact, wishes):
    rows = stepping.graph(pact)
    depth = stepping.depths(rows, stepping.start(pact))
    return all(fewest_against(wish, rows, depth) is None for wish in wishes)


def least_and_greatest(pact, menu, wishes):
    """All least choices to take out, and all greatest ones to let in, by trying all choices."""
    rows = []
    for out in (True, False):
        good = [choice for choice in choices(menu)
                if all_hold(changed(pact, [menu[at] for at in choice], out), wishes)]
        if out:
            rows.append([one for one in good if not any(set(other) < set(one) for other in good)])
        else:
            rows.append([one for one in good if not any(set(one) < set(other) for other in good)])
    return rows


class OutAndInTest(unittest.TestCase):
    def test_by_hand(self):
        pact = example()
        told = taken_out(pact, MENU, (1,))
        self.assertEqual(told.right.pairs("frame"), [pair for pair in ALL if pair != (0, 1)])
        self.assertIsNone(told.right.pairs("answer"))
        self.assertEqual((told.left, told.left.pairs("back")), (pact.left, []))
        self.assertEqual(taken_out(pact, MENU, (1, 2)).right.pairs("frame"), [one for one in ALL if one not in ((0, 0), (0, 1))])
        self.assertEqual(taken_out(pact, [BACK], (0,)), pact)
        self.assertEqual(let_in(pact, [BACK], (0,)).left.pairs("back"), [(1, 0)])

    def test_a_deed_that_may_be_done_with_any(self):
        pact = example()
        self.assertEqual(let_in(pact, MENU, (0, 1, 2, 3)), pact)
        self.assertEqual(taken_out(pact, [SET], (0,)).left.pairs("set"), ALL[1:])

    def test_a_pair_that_is_let_already_or_barred_already(self):
        pact = one_way(size(), "heard", {"back": []}, {"frame": [(0, 0)]})
        self.assertEqual(let_in(pact, MENU, (2,)), pact)
        self.assertEqual(taken_out(pact, MENU, (1,)), pact)
        self.assertEqual(let_in(pact, MENU, (1,)).right.pairs("frame"), [(0, 0), (0, 1)])
        self.assertEqual(taken_out(pact, MENU, (2,)).right.pairs("frame"), [])

    def test_the_empty_choice(self):
        for pact in (example(), two_way()):
            self.assertEqual(taken_out(pact, MENU, ()), pact)
            self.assertEqual(let_in(pact, MENU, ()), pact)

    def test_all_pairs_let_in_one_by_one(self):
        """A list of all pairs lets as much as none, but it is a list all the same."""
        pact = one_way(size(), "heard", {}, {"frame": ALL[1:]})
        told = let_in(pact, [("right", "frame", (0, 0))], (0,))
        self.assertEqual(told.right.pairs("frame"), ALL)
        self.assertEqual(states(told), states(let_in(one_way(size(), "heard"), MENU, ())))

    def test_all_choices(self):
        menu = [SET, ("left", "back", (1, 0)), ("right", "frame", (0, 1)), ("right", "set", (3, 3)), ("left", "back", (0, 0)),
                ("left", "done", (2, 1))]
        for pact in (example(), two_way(), one_way(room(), "heard", {"set": [(0, 0)], "done": []}, {"frame": [(0, 0), (0, 1)]})):
            for choice in choices(menu):
                items = [menu[at] for at in choice]
                self.assertEqual(taken_out(pact, menu, choice), changed(pact, items, True))
                self.assertEqual(let_in(pact, menu, choice), changed(pact, items, False))

    def test_wider_rules_bring_more_states(self):
        pact = one_way(size(), "heard", {"back": [], "set": []}, {"frame": [(0, 0)]})
        known = set()
        for choice in ((), (0,), (0, 1)):
            more = set(states(let_in(pact, [SET, LATE], choice)))
            self.assertLess(known, more)
            known = more


class LeastTest(unittest.TestCase):
    def test_by_hand(self):
        self.assertEqual(least_taken_out(example(), MENU, [("kept", "a")]), [(0,), (1,)])
        self.assertEqual(least_taken_out(example(), [LATE, SET], [("kept", "a")]), [(0,), (1,)])
        self.assertEqual(least_taken_out(example(), [EARLY, LATE, ANSWER], [("kept", "a")]), [(1,)])
        self.assertEqual(least_taken_out(example(), MENU, [("owed", "right", 0)]), [(0,)])

    def test_several_together(self):
        """Both ends change a setting each, so that something of each is to be taken out."""
        left = End({"a": size(hold="sent")}, {"b": "heard"}, {"back": []}, 1)
        pact = Pact(left, End({"b": size(hold="sent")}, {"a": "heard"}, {"back": []}, 1))
        menu = [SET, ("right", "set", (0, 0)), ("left", "set", (0, 1)), ("right", "set", (0, 1))]
        self.assertEqual(least_taken_out(pact, menu, [("open", "left", 0)]), [(0, 1), (0, 2)])
        self.assertEqual(least_taken_out(pact, menu, [("open", "left", 0), ("open", "right", 0)]), [(0, 1)])
        self.assertEqual(least_taken_out(pact, menu[:1], [("kept", "a"), ("kept", "b")]), [])
        self.assertEqual(least_taken_out(pact, menu, [("kept", "a"), ("kept", "b")]), [(0, 1)])

    def test_no_wish(self):
        self.assertEqual(least_taken_out(example(), MENU, []), [()])
        self.assertEqual(greatest_let_in(example(), MENU, []), [(0, 1, 2, 3)])

    def test_wishes_that_hold_with_nothing_taken_out(self):
        self.assertEqual(least_taken_out(example(), MENU, [("open", "left", 1), ("lane", "left", 2)]), [()])

    def test_wishes_that_hold_with_no_choice(self):
        start = first_state(example())
        for wishes in ([("never", start)], [("open", "left", 3), ("never", start)], [("unjudged", ("a", 1, 1, "kept"))]):
            self.assertEqual(least_taken_out(example(), [SET, LATE, ANSWER], wishes), [])
            self.assertEqual(greatest_let_in(example(), [SET, LATE, ANSWER], wishes), [])

    def test_greatest_by_hand(self):
        tight = one_way(size(), "heard", {"back": [], "set": []}, {"frame": [(0, 0)]})
        menu = [SET, LATE, ("right", "frame", (3, 3))]
        self.assertEqual(greatest_let_in(tight, menu, [("kept", "a")]), [(0, 2), (1, 2)])
        self.assertEqual(greatest_let_in(tight, menu[:2], [("kept", "a")]), [(0,), (1,)])
        self.assertEqual(greatest_let_in(tight, menu, [("open", "left", 0)]), [(1, 2)])
        self.assertEqual(greatest_let_in(tight, menu, [("lane", "left", 9)]), [(0, 1, 2)])
        self.assertEqual(greatest_let_in(tight, [SET], [("open", "left", 0)]), [()])
        self.assertEqual(least_taken_out(tight, menu, [("kept", "a")]), [()])

    def test_short_ones_come_first(self):
        """A short greatest choice beside a long one with smaller indices."""
        tight = one_way(size(), "heard", {"back": [], "set": []}, {"frame": [(0, 0)]})
        menu = [LATE, ("right", "frame", (3, 3)), SET, ("right", "frame", (2, 2))]
        self.assertEqual(greatest_let_in(tight, menu[:1] + menu[2:3], [("kept", "a")]), [(0,), (1,)])
        self.assertEqual(greatest_let_in(tight, menu, [("kept", "a")]), [(0, 1, 3), (1, 2, 3)])
        left = End({"a": size([(1, 0)], "sent")}, {}, {"back": [], "set": []}, 1)
        pact = Pact(left, End({}, {"a": "answered"}, {"frame": [], "answer": []}, 1))
        menu = [EARLY, LATE, SET]
        self.assertEqual(greatest_let_in(pact, menu, [("kept", "a")]), [(2,), (0, 1)])

    def test_all_choices_tried(self):
        first = first_state(example())
        room_pact = one_way(room(hold="sent"), "heard", {"back": [], "done": [(0, 0)]}, {"frame": [(0, 0)]})
        tight = one_way(table(), "heard", {"back": [], "set": [(1, 0)]}, {"frame": [(0, 0)], "answer": [(0, 1)]})
        rows = [
            (example(), MENU, [("kept", "a")]), (example(), MENU + [BACK], [("kept", "a"), ("lane", "left", 1)]),
            (example(), [("right", "answer", (0, 1)), ("left", "set", (0, 0))], [("unjudged", ("a", 2, 2, "kept"))]),
            (tight, [SET, LATE, ("right", "answer", (0, 2)), ("left", "back", (1, 0))], [("kept", "a")]),
            (tight, [SET, LATE, ("left", "set", (1, 0)), ("left", "back", (1, 0))], [("lane", "right", 1), ("owed", "right", 0)]),
            (tight, [SET, LATE], [("never", first)]),
            (room_pact, [SET, LATE, ("left", "done", (1, 0)), ("right", "frame", (0, 0))], [("kept", "a")]),
            (room_pact, [("left", "done", (0, 0)), SET, EARLY], [("unjudged", ("a", 2, 2, "kept")), ("kept", "a")]),
        ]
        for pact, menu, wishes in rows:
            for wished in (wishes, wishes[::-1]):
                least, greatest = least_and_greatest(pact, menu, wished)
                self.assertEqual(least_taken_out(pact, menu, wished), least)
                self.assertEqual(greatest_let_in(pact, menu, wished), greatest)
                for choice in least:
                    self.assertTrue(all(holds(taken_out(pact, menu, choice), wish) for wish in wished))

    def test_six_items_of_both_ends(self):
        left = End({"a": size([(0, 1)], "sent", 2, 0)}, {"b": "heard"}, {"back": []}, 1)
        pact = Pact(left, End({"b": table([(0, 1)], "sent", 2, 0)}, {"a": "heard"}, {"back": [], "frame": [(0, 0)]}, 1))
        menu = [SET, ("right", "set", (0, 0)), ("left", "frame", (0, 0)), ("right", "frame", (0, 1)), ("left", "set", (0, 1)),
                ("left", "frame", (1, 0))]
        least, greatest = least_and_greatest(pact, menu, [("kept", "b")])
        self.assertGreater(len(least), 1)
        self.assertEqual(least_taken_out(pact, menu, [("kept", "b")]), least)
        self.assertEqual(greatest_let_in(pact, menu, [("kept", "b")]), greatest)

    def test_lists_belong_to_the_caller(self):
        pact, menu, wishes = example(), list(MENU), [("kept", "a")]
        told = taken_out(pact, menu, (1,))
        least = least_taken_out(pact, menu, wishes)
        self.assertEqual((menu, wishes), (MENU, [("kept", "a")]))
        menu.clear()
        wishes.clear()
        least.clear()
        self.assertTrue(is_sound(told))
        self.assertEqual(least_taken_out(pact, list(MENU), [("kept", "a")]), [(0,), (1,)])
        greatest_let_in(pact, list(MENU), []).clear()
        self.assertEqual(greatest_let_in(pact, list(MENU), []), [(0, 1, 2, 3)])


NO_MENUS = ODD + [
    [SET, SET], [SET, LATE, SET], [None], [SET, None], tuple(MENU), [list(SET)], [SET + (0,)], [SET[:2]], {SET: 1},
    [("left", "set", (0, at)) for at in range(4)] + [("right", "set", (0, at)) for at in range(3)],
    [("middle", "set", (0, 0))], [("Left", "set", (0, 0))], [(None, "set", (0, 0))], [(["left"], "set", (0, 0))], [(Picky(), "set", (0, 0))],
    [("left", "sets", (0, 0))], [("left", "no", (0, 0))], [("left", None, (0, 0))], [("left", Picky(), (0, 0))], [("left", "hear", (0, 0))],
    [("left", "set", [0, 0])], [("left", "set", (0,))], [("left", "set", (0, 0, 0))], [("left", "set", (0, 4))], [("left", "set", (4, 0))],
    [("left", "set", (-1, 0))], [("left", "set", (0, -1))], [("left", "set", (True, 0))], [("left", "set", (0, False))],
    [("left", "set", (0.0, 0))], [("left", "set", (0, 1.0))], [("left", "set", None)], [("left", "set", Picky())], [("left", "set", (Picky(), 0))],
    [("left", "set", ("0", "0"))], [("set", "left", (0, 0))], ["left set 0,0"],
]
NO_CHOICES = [value for value in ODD if not isinstance(value, tuple)] + [
    ("a",), ("left", "right"),
    (4,), (-1,), (0, 0), (1, 0), (0, 2, 1), (0, 1, 4), (True,), (False,), (0, True), (0.0,), (1.0,), ("0",), (None,), [0], [], ((0,),), (0, None),
    (Picky(),), ([0],), {0: 1}, (0, 1, 2, 3, 4), (3, 3),
]


class CallsTest(unittest.TestCase):
    def test_values_that_are_no_menu(self):
        for value in NO_MENUS:
            for call in (lambda: taken_out(example(), value, ()), lambda: let_in(example(), value, None),
                         lambda: least_taken_out(example(), value, []), lambda: greatest_let_in(example(), value, [None]),
                         lambda: least_taken_out(crowded(), value, [])):
                with self.assertRaises(BadMenu) as told:
                    call()
                self.assertIs(told.exception.value, value)

    def test_menus_of_one_to_six_items(self):
        items = [("left", deed, (one, 3)) for deed in DEEDS for one in range(4)]
        for many in range(1, 7):
            self.assertEqual(taken_out(example(), items[:many], ()), example())
        self.assertRaises(BadMenu, taken_out, example(), items[:7], ())
        self.assertRaises(BadMenu, taken_out, example(), [], ())

    def test_values_that_are_no_choice(self):
        for value in NO_CHOICES:
            for call in (taken_out, let_in):
                with self.assertRaises(BadChange) as told:
                    call(example(), MENU, value)
                self.assertIs(told.exception.value, value)
        self.assertRaises(BadChange, let_in, example(), [SET], (1,))
        self.assertEqual(let_in(example(), [SET], (0,)), example())

    def test_values_that_are_no_wish(self):
        for value in [None, 1, "kept", ("kept", "b"), ["kept", "a"], ("open", "left", 4), Picky(), ("never", None), ("kept", ["a"])]:
            for call in (least_taken_out, greatest_let_in):
                for wishes in ([value], [("kept", "a"), value, None], [value, ("kept", "c")]):
                    with self.assertRaises(BadClaim) as told:
                        call(example(), MENU, wishes)
                    self.assertIs(told.exception.value, value)

    def test_values_that_are_no_pact(self):
        for value in ODD + [example().left]:
            for call in (lambda: taken_out(value, None, None), lambda: let_in(value, MENU, ()),
                         lambda: least_taken_out(value, None, [None]), lambda: greatest_let_in(value, MENU, [])):
                with self.assertRaises(BadArgument) as told:
                    call()
                self.assertIs(told.exception.value, value)

    def test_names_of_the_parameters(self):
        pact = example()
        self.assertEqual(taken_out(choice=(), menu=MENU, pact=pact), pact)
        self.assertEqual(let_in(choice=(), menu=MENU, pact=pact), pact)
        self.assertEqual(least_taken_out(wishes=[], menu=MENU, pact=pact), [()])
        self.assertEqual(greatest_let_in(wishes=[], menu=MENU, pact=pact), [(0, 1, 2, 3)])

    def test_too_many(self):
        pact = crowded()
        for call in (lambda: least_taken_out(pact, MENU, []), lambda: least_taken_out(pact, MENU, [("open", "left", 3)]),
                     lambda: greatest_let_in(pact, MENU, []), lambda: greatest_let_in(pact, MENU, [("never", first_state(pact))])):
            with self.assertRaises(TooMany) as told:
                call()
            self.assertEqual(told.exception.limit, 30000)
        for call in (least_taken_out, greatest_let_in):
            self.assertRaises(BadClaim, call, pact, MENU, [("kept", "e")])
        # These two search for nothing.
        self.assertNotEqual(taken_out(pact, MENU, (0,)), pact)
        self.assertEqual(let_in(pact, MENU, (0,)), pact)

    def test_which_states_are_counted(self):
        """Those of the widest pact of all choices: with nothing taken out, or with all let in."""
        for wishes in ([], [("kept", "a")], [("never", first_state(example()))]):
            with mock.patch.object(spaces, "LIMIT", 35):
                least_taken_out(example(), MENU, wishes)
            with mock.patch.object(spaces, "LIMIT", 34):
                self.assertRaises(TooMany, least_taken_out, example(), MENU, wishes)
        tight = one_way(size(), "heard", {"back": [], "set": []}, {"frame": [(0, 0)]})
        menu = [SET, LATE]
        many = len(states(let_in(tight, menu, (0, 1))))
        self.assertEqual((len(states(tight)), many), (3, 35))
        for wishes in ([], [("open", "left", 0)], [("never", first_state(tight))]):
            with mock.patch.object(spaces, "LIMIT", many):
                greatest_let_in(tight, menu, wishes)
            with mock.patch.object(spaces, "LIMIT", many - 1):
                self.assertRaises(TooMany, greatest_let_in, tight, menu, wishes)
        with mock.patch.object(spaces, "LIMIT", 3):
            self.assertEqual(least_taken_out(tight, menu, []), [()])


if __name__ == "__main__":
    unittest.main()
