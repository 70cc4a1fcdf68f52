"""[1], [2], [11], [18] Ends that are alike to all other ends."""

import random
import unittest
from unittest import mock

import stepping
from answeredsettings import spaces
from answeredsettings.alike import alike_ends, are_alike, first_parting
from answeredsettings.ends import End
from answeredsettings.errors import BadArgument, BadName, TooMany
from answeredsettings.pacts import NAMES, Pact
from answeredsettings.settings import Setting
from answeredsettings.verdicts import verdicts
from samples import ODD, crowded, example, one_way, room, size, small_pacts, table, two_at_one, two_way, wide

ALL = [(opened, owed) for opened in range(4) for owed in range(4)]
BINARY = [(0, 1), (1, 0)]


def owner(changes=((1, 2), (2, 1)), hold="answered", rules=None, most=1, make=size, start=1):
    """An end that can stand at the left of the example."""
    return End({"a": make(changes, hold, 3, start)}, {}, {"back": []} if rules is None else rules, most)


def maker(use="heard", rules=None, most=1):
    """An end that can stand at the right of the example."""
    return End({}, {"a": use}, rules or {}, most)


def row(text):
    """A row of steps from a text like "send set a 2; hear answer"."""
    steps = []
    for part in text.split("; "):
        way, *parts = part.split()
        steps.append((way, tuple(int(one) if one.isdigit() else one for one in parts)))
    return steps


def can_hear(pact, name, local, letter):
    """Whether an end can hear a letter in a local state, whatever the other end."""
    opened, owed = local[1], local[2]
    other = pact.end(pact.other(name))
    if letter == ("back",):
        return owed != () and owed[-1][2] == 0
    if letter == ("answer",):
        return opened != ()
    if letter == ("no",):
        return opened != () and opened[0][2] == 1
    if letter[0] == "set":
        return len(owed) < other.most
    return letter[0] == "frame" or local[4][0] > 0


def row_steps(pact, name, local):
    """A dict from the steps that an end can go to (local state behind, verdict): all letters are tried."""
    found = {("send", letter): (behind, None) for letter, behind in stepping.sends(pact, name, local)}
    # What it can hear is among all that the other end could ever send.
    for letter in stepping.Record(pact, pact.other(name), stepping.start(pact)[1 - NAMES.index(name)]).all_letters():
        if can_hear(pact, name, local, letter):
            found["hear", letter] = stepping.heard(pact, name, local, letter)
    return found


def walked(pact, name, end):
    """The length of a shortest row that parts two ends, None if there is none; both are walked side by side."""
    pacts = (pact, pact.with_end(name, end))
    at = NAMES.index(name)
    first = (stepping.start(pacts[0])[at], stepping.start(pacts[1])[at])
    layer, known, many = [first], {first}, 0
    while layer:
        many += 1
        behind = []
        for pair in layer:
            one, other = [row_steps(pacts[k], name, pair[k]) for k in (0, 1)]
            if {step: told[1] for step, told in one.items()} != {step: told[1] for step, told in other.items()}:
                return many
            for step in one:
                both = (one[step][0], other[step][0])
                if both not in known:
                    known.add(both)
                    behind.append(both)
        layer = behind
    return None


def met_pairs(pact, name):
    """How many pairs of local states an end and itself come to."""
    at = NAMES.index(name)
    first = stepping.start(pact)[at]
    known, waiting = {first}, [first]
    while waiting:
        for behind, _ in row_steps(pact, name, waiting.pop()).values():
            if behind not in known:
                known.add(behind)
                waiting.append(behind)
    return len(known)


class AlikeTest(unittest.TestCase):
    def assert_parting(self, pact, name, end, length):
        told = first_parting(pact, name, end)
        self.assertEqual(told if told is None else len(told), length)
        self.assertEqual(walked(pact, name, end), length)
        self.assertIs(are_alike(pact, name, end), length is None)
        self.assertEqual(alike_ends(pact, name, [end]), [0] if length is None else [])
        if told is not None:
            self.assert_parts(pact, name, end, told)

    def assert_parts(self, pact, name, end, told):
        """Both ends can go all steps but for the last one, with the same verdicts; the last one parts them."""
        pacts = (pact, pact.with_end(name, end))
        locals_ = [stepping.start(one)[NAMES.index(name)] for one in pacts]
        for step in told[:-1]:
            rows = [row_steps(pacts[at], name, locals_[at])[step] for at in (0, 1)]
            self.assertEqual(rows[0][1], rows[1][1])
            locals_ = [behind for behind, _ in rows]
        last = [row_steps(pacts[at], name, locals_[at]).get(told[-1], ("none", "none"))[1] for at in (0, 1)]
        self.assertNotEqual(last[0], last[1])

    def test_an_end_is_alike_to_itself(self):
        for pact in small_pacts().values():
            for name in NAMES:
                self.assertIs(are_alike(pact, name, pact.end(name)), True)
                self.assertIsNone(first_parting(pact, name, pact.end(name)))

    def test_the_same_in_another_form(self):
        """All pairs let as much as none; a deed that never can be done may be let or not."""
        pact = example()
        rules = {"back": [], "set": ALL, "answer": ALL, "frame": ALL, "done": ALL}
        for end in (
            owner(rules=rules), owner(rules={"back": [(0, 0), (0, 1)]}), owner(rules={"back": [], "set": [(0, 0)]}),
            owner(rules={"back": [], "frame": []}), owner(rules={"back": [], "answer": [], "done": []}),
            owner([(1, 2), (2, 1), (0, 1), (0, 2)]), owner([(2, 1), (1, 2), (1, 2)]),
        ):
            self.assert_parting(pact, "left", end, None)
        for end in (maker(most=2), maker(most=3), maker(rules={"set": [], "back": [], "done": []}),
                    maker(rules={"answer": [(0, 1)], "frame": [(0, 0), (0, 1)]})):
            self.assert_parting(pact, "right", end, None)

    def test_changes_turned(self):
        self.assert_parting(example(), "left", owner([(1, 2)]), 3)
        self.assert_parting(example(), "left", owner([(2, 1)]), 1)
        self.assert_parting(example(), "left", owner([(1, 2), (2, 1), (2, 0)]), 3)
        self.assert_parting(example(), "left", owner([(1, 2), (2, 1), (1, 0)]), 1)
        self.assertEqual(first_parting(example(), "left", owner([])), row("send set a 2"))
        self.assertEqual(first_parting(example(), "left", owner([(1, 2)])), row("send set a 2; hear answer; send set a 1"))

    def test_hold_turned(self):
        self.assert_parting(example(), "left", owner(hold="sent"), 2)
        self.assert_parting(example(), "left", owner(hold="open"), 2)
        told = first_parting(example(), "left", owner(hold="sent"))
        self.assertEqual((told[0], told[1][0], told[1][1][:2]), (("send", ("set", "a", 2)), "hear", ("frame", "a")))
        # One change that makes greater is judged alike by the newest value and by the greatest one.
        pact = example().with_end("left", owner([(1, 2)], "sent"))
        self.assert_parting(pact, "left", owner([(1, 2)], "open"), None)
        pact = example().with_end("left", owner([(1, 2), (2, 1)], "sent"))
        self.assert_parting(pact, "left", owner([(1, 2), (2, 1)], "open"), 4)

    def test_a_hold_shows_only_behind_a_change(self):
        pact = example().with_end("left", owner([]))
        for hold in ("sent", "open", "answered"):
            self.assert_parting(pact, "left", owner([], hold), None)

    def test_verdicts_are_unlike_though_their_fates_are_not(self):
        """A frame 0 is kept by 1 and by 2, but judged by another value."""
        told = first_parting(example(), "left", owner(start=2, changes=[(1, 2), (2, 1)]))
        self.assertEqual(len(told), 1)
        self.assert_parting(example(), "left", owner(start=0), 1)

    def test_another_start_of_which_nothing_is_heard(self):
        """A room of another start is told by its changes, or by a frame."""
        pact = one_way(room([]), "heard")
        self.assert_parting(pact, "left", End({"a": room([], start=2)}, {}, {}, 1), 1)

    def test_uses_turned(self):
        self.assert_parting(example(), "right", maker("answered"), 2)
        told = first_parting(example(), "right", maker("answered"))
        self.assertEqual(told[0][0], "hear")
        # With no frames nobody sees by what it would make them.
        pact = example().with_end("right", maker(rules={"frame": []}))
        self.assert_parting(pact, "right", maker("answered", {"frame": []}), None)
        pact = example().with_end("right", maker(rules={"frame": [(0, 0)]}))
        self.assert_parting(pact, "right", maker("answered", {"frame": [(0, 0)]}), None)

    def test_pairs_turned(self):
        self.assert_parting(example(), "left", owner(rules={}), 2)
        self.assertEqual(first_parting(example(), "left", owner(rules={})), row("send set a 2; send back"))
        self.assert_parting(example(), "left", owner(rules={"back": [], "set": []}), 1)
        self.assert_parting(example(), "right", maker(rules={"frame": []}), 1)
        self.assert_parting(example(), "right", maker(rules={"frame": [(0, 0)]}), 2)
        self.assert_parting(example(), "right", maker(rules={"answer": []}), 2)

    def test_most_turned(self):
        self.assert_parting(example(), "left", owner(most=2), 2)
        self.assert_parting(example(), "left", owner(most=2, rules={"back": [], "set": [(0, 0)]}), None)

    def test_the_newest_value_is_heard_again(self):
        """A row may hear a value that no End would send: an end that owes it uses it as any other one."""
        pact = Pact(owner(most=2), maker("heard"))
        self.assertIn(("hear", ("set", "a", 1)), row_steps(pact, "right", stepping.start(pact)[1]))
        self.assert_parting(pact, "right", maker("heard", {"answer": ALL}), None)

    def test_other_sides_changes_do_not_bind(self):
        """The left end of this pact never changes anything, but other ends do."""
        pact = example().with_end("left", owner([]))
        self.assert_parting(pact, "right", maker("answered"), 2)
        barred = example().with_end("left", owner(rules={"set": [], "back": []}))
        self.assert_parting(barred, "right", maker(rules={"answer": []}), 2)

    def test_no_more_is_owed_than_the_other_end_may_have_open(self):
        rules = {"answer": [(0, 1), (0, 2)]}
        for most, length in ((1, None), (2, None), (3, 4)):
            pact = Pact(owner(most=most), maker())
            self.assert_parting(pact, "right", maker(rules=rules), length)

    def test_rooms(self):
        left = End({"a": room(start=2)}, {}, {}, 1)
        pact = Pact(left, maker())
        self.assert_parting(pact, "left", End({"a": room(start=2)}, {}, {"done": []}, 1), 2)
        self.assert_parting(pact, "left", End({"a": room(start=2)}, {}, {"done": [(0, 0), (1, 0)]}, 1), None)
        self.assert_parting(pact, "right", maker("answered"), 2)
        self.assert_parting(pact, "right", maker(rules={"frame": ALL}), None)
        self.assertEqual(first_parting(pact, "right", maker(rules={"frame": [(0, 1)]})), row("send frame a 0"))

    def test_credit_that_comes_back(self):
        """Behind two frames, which take all the credit, a frame can be sent as soon as one is given back."""
        pact = Pact(End({"a": room([], start=2)}, {}, {}, 1), End({}, {"a": "heard"}, {"frame": [(0, 0)]}, 1))
        self.assertIn(("hear", ("done", "a")), row_steps(pact, "right", ((), (), (), (2,), (1,), ())))
        self.assert_parting(pact, "right", End({}, {"a": "answered"}, {"frame": [(0, 0)]}, 1), None)

    def test_answers_to_what_was_asked_back(self):
        pact = example().with_end("left", owner(rules={}))
        self.assert_parting(pact, "left", owner(rules={"back": []}), 2)
        self.assert_parting(pact, "left", owner(rules={"back": [(1, 0), (2, 0)]}), None)
        more = pact.with_end("left", owner(most=2, rules={"set": [(0, 0), (1, 0)]}))
        self.assert_parting(more, "left", owner(most=2, rules={"set": [(0, 0), (1, 0)], "back": [(1, 0)]}), 3)

    def test_two_words(self):
        pact = two_at_one()
        left = End({"b": table(BINARY, "sent", 2, 0), "a": size([(0, 1)], "sent", 2, 0)}, {}, {}, 2)
        self.assert_parting(pact, "left", left, 2)
        self.assert_parting(pact, "right", End({}, {"a": "heard", "b": "heard"}, {}, 1), 2)
        self.assert_parting(pact, "right", End({}, {"a": "heard", "b": "answered"}, {}, 3), None)

    def test_both_ends_own(self):
        pact = two_way()
        for name in NAMES:
            self.assert_parting(pact, name, pact.end(name), None)
            self.assert_parting(pact, name, pact.end(name).with_pairs("answer", [(0, 1)]), 3)

    def test_ends_made_at_random(self):
        known = random.Random(18)
        found = {}
        for _ in range(120):
            pact, name, end = self.some(known)
            length = walked(pact, name, end)
            told = first_parting(pact, name, end)
            self.assertEqual(told if told is None else len(told), length)
            self.assertIs(are_alike(pact, name, end), length is None)
            self.assertEqual(first_parting(pact, name, end), told)
            found[length] = found.get(length, 0) + 1
            if told is not None:
                self.assert_parts(pact, name, end, told)
        self.assertGreater(found[None], 5)
        self.assertGreater(len(found), 3)

    def some(self, known):
        """A pact, a name, and an end that can stand there and is much like the one that does."""
        kind, use = known.choice(["size", "table", "room"]), known.choice(["heard", "answered"])
        changes = known.sample([(one, other) for one in range(3) for other in range(3) if one != other], 3)
        left = End({"a": Setting(kind, 3, 1, changes, "answered")}, {}, self.rules(known), 1)
        pact = Pact(left, End({}, {"a": use}, self.rules(known), 1))
        name = known.choice(NAMES)
        end = pact.end(name)
        if name == "left" and known.random() < 0.5:
            more = changes + [(known.randrange(2), 2)]
            end = End({"a": Setting(kind, 3, 1, more, known.choice(["answered", "sent"]))}, {}, {}, 1)
            for deed in ("set", "back", "answer", "frame", "done"):
                end = end.with_pairs(deed, left.pairs(deed))
        elif known.random() < 0.7:
            deed = known.choice(["set", "back", "answer", "frame", "done"])
            end = end.with_pairs(deed, [(one, other) for one in range(3) for other in range(3) if known.random() < 0.8])
        return pact, name, end

    def rules(self, known):
        deed = known.choice(["set", "back", "answer", "frame", "done"])
        return {deed: [(one, other) for one in range(2) for other in range(2) if known.random() < 0.8]}

    def test_alike_ends_have_the_same_verdicts(self):
        """Whatever the other end is: here some others in the place of the left one."""
        ends = [maker(), maker("answered"), maker(rules={"frame": [(0, 0)]}), maker("answered", {"frame": [(0, 0)]}),
                maker(most=3), maker(rules={"set": []})]
        pact = example()
        for at, end in enumerate(ends):
            for other in alike_ends(pact.with_end("right", end), "right", ends):
                for left in (owner(), owner(hold="sent"), owner([(1, 0)], rules={})):
                    self.assertEqual(verdicts(Pact(left, end), "a"), verdicts(Pact(left, ends[other]), "a"))
            self.assertIn(at, alike_ends(pact.with_end("right", end), "right", ends))
        self.assertEqual(alike_ends(pact, "right", ends), [0, 4, 5])
        self.assertEqual(alike_ends(pact.with_end("right", ends[2]), "right", ends), [2, 3])


class ListTest(unittest.TestCase):
    def test_indices_ascend(self):
        ends = [owner(hold="sent"), owner(), owner([(1, 2)]), owner(rules={"back": [(0, 0)]}), owner()]
        self.assertEqual(alike_ends(example(), "left", ends), [1, 3, 4])
        self.assertEqual(alike_ends(example(), "left", ends[::-1]), [0, 1, 3])
        self.assertEqual(alike_ends(example(), "left", []), [])

    def test_lists_belong_to_the_caller(self):
        ends = [owner(), owner(hold="sent")]
        before = list(ends)
        alike_ends(example(), "left", ends).clear()
        self.assertEqual(ends, before)
        first_parting(example(), "left", ends[1]).clear()
        self.assertEqual(len(first_parting(example(), "left", ends[1])), 2)
        self.assertEqual(alike_ends(example(), "left", ends), [0])


class CallsTest(unittest.TestCase):
    def assert_no_end(self, pact, name, value):
        for call in (lambda: are_alike(pact, name, value), lambda: first_parting(pact, name, value),
                     lambda: alike_ends(pact, name, [pact.end(name), value, None])):
            with self.assertRaises(BadArgument) as told:
                call()
            self.assertIs(told.exception.value, value)

    def test_values_that_are_no_such_end(self):
        pact = example()
        for value in ODD + [
            pact, pact.right, End({}, {}, {}, 1), End({"b": size()}, {}, {}, 1), End({"a": size(), "b": size()}, {}, {}, 1),
            End({"a": table()}, {}, {}, 1), End({"a": room()}, {}, {}, 1), End({"a": size(many=4)}, {}, {}, 1),
            End({"a": size([(0, 1)], many=2)}, {}, {}, 1), End({"a": size()}, {"b": "heard"}, {}, 1),
        ]:
            self.assert_no_end(pact, "left", value)
        for value in (pact.left, End({}, {}, {}, 1), End({}, {"b": "heard"}, {}, 1), End({}, {"a": "heard", "b": "heard"}, {}, 1),
                      End({"b": size()}, {"a": "heard"}, {}, 1)):
            self.assert_no_end(pact, "right", value)
        self.assert_no_end(crowded(), "left", None)
        self.assert_no_end(two_at_one(), "left", End({"a": size(), "b": size()}, {}, {}, 1))

    def test_values_that_are_no_name(self):
        for value in ODD + ["middle", "a"]:
            for call in (lambda: are_alike(example(), value, None), lambda: first_parting(example(), value, example().left),
                         lambda: alike_ends(example(), value, [None]), lambda: alike_ends(example(), value, [])):
                with self.assertRaises(BadName) as told:
                    call()
                self.assertIs(told.exception.value, value)

    def test_values_that_are_no_pact(self):
        for value in ODD + [example().left]:
            for call in (lambda: are_alike(value, None, None), lambda: first_parting(value, "left", example().left),
                         lambda: alike_ends(value, None, [None]), lambda: alike_ends(value, "left", [])):
                with self.assertRaises(BadArgument) as told:
                    call()
                self.assertIs(told.exception.value, value)

    def test_names_of_the_parameters(self):
        pact = example()
        self.assertIs(are_alike(end=pact.left, name="left", pact=pact), True)
        self.assertIsNone(first_parting(end=pact.left, name="left", pact=pact))
        self.assertEqual(alike_ends(ends=[pact.left], name="left", pact=pact), [0])

    def huge(self):
        """A pact whose left end comes to more than 30000 local states."""
        changes = [(one, other) for one in range(4) for other in range(4) if one != other]
        left = End({"a": Setting("size", 4, 1, changes, "sent"), "b": Setting("table", 4, 1, changes, "sent")}, {}, {}, 3)
        return Pact(left, End({}, {"a": "heard", "b": "heard"}, {}, 1))

    def test_too_many(self):
        pact = self.huge()
        with self.assertRaises(TooMany) as told:
            are_alike(pact, "left", pact.left)
        self.assertEqual(told.exception.limit, 30000)
        with self.assertRaises(BadArgument):
            alike_ends(pact, "left", [pact.left, pact.right])
        # A parting that is met ahead of so many pairs is told all the same.
        barred = pact.left.with_pairs("set", [])
        self.assertEqual(len(first_parting(pact, "left", barred)), 1)

    def test_pairs_of_local_states_are_counted(self):
        # To 0 only 2 leads: a change that is not asked back hears no ("no",), so 1 never stands below an open 0.
        chain = one_way(size([(1, 2), (2, 0)]), "heard", most=2)
        for pact, name in ((example(), "left"), (example(), "right"), (one_way(room(), "heard"), "left"), (two_at_one(), "left"),
                           (chain, "left"), (chain, "right"), (two_way(), "left"), (two_way(), "right")):
            many = met_pairs(pact, name)
            with mock.patch("answeredsettings.alike.LIMIT", many):
                self.assertIs(are_alike(pact, name, pact.end(name)), True)
            with mock.patch("answeredsettings.alike.LIMIT", many - 1):
                for call in (are_alike, first_parting):
                    self.assertRaises(TooMany, call, pact, name, pact.end(name))
                self.assertRaises(TooMany, alike_ends, pact, name, [pact.end(name)])

    def test_states_of_both_ends_together_are_not(self):
        """There are few local states of an end where there are many states."""
        with mock.patch.object(spaces, "LIMIT", 10):
            self.assertIs(are_alike(wide(), "left", wide().left), True)


if __name__ == "__main__":
    unittest.main()
