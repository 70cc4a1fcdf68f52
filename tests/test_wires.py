"""[1], [2], [24] Letters as bytes, and machines whose letters go as bytes."""

import itertools
import random
import unittest

from answeredsettings.ends import End
from answeredsettings.errors import BadArgument, BadBytes, BadMove, BadName
from answeredsettings.machine import Machine
from answeredsettings.pacts import NAMES, Pact
from answeredsettings.wires import Wire, pack, unpack
from samples import ODD, Picky, crowded, example, move, one_way, room, size, small_pacts, table, two_way, weaving, wide

HEAR = ("hear",)
LETTERS = {
    ("set", "a", 2): b"\x01\x01a\x02e", ("back",): b"\x02\x02", ("answer",): b"\x03\x03", ("no",): b"\x04\x04",
    ("frame", "a", 0): b"\x05\x01a\x00g", ("done", "a"): b"\x06\x01ah", ("frame", "abcdefgh", 3): b"\x05\x08abcdefgh\x03\x34",
    ("set", "zzzzzzzz", 1): b"\x01\x08zzzzzzzz\x01\xda", ("done", "zz"): b"\x06\x02zz\xfc",
}
NO_LETTERS = [
    HEAR, ("set",), ("set", "a"), ("set", "a", 4), ("set", "a", -1), ("set", "a", True), ("set", "a", False), ("set", "a", "1"),
    ("set", "a", 1.0), ("set", "a", None), ("set", "A", 1), ("set", "", 1), ("set", "abcdefghi", 1), ("set", "a1", 1), ("set", 1, 1),
    ("set", "a", 1, 1), ("set", b"a", 1), ("set", 1, "a"), ("back", "a"), ("back", 1), ("answer", ()), ("no", None), ("frame", "a"),
    ("frame", "a", 4), ("frame", "a b", 0), ("frame", Picky(), 0), ("frame", "a", Picky()), ("done",), ("done", "a", 0), ("done", 1),
    ("done", ""), ("Set", "a", 1), ("sets", "a", 1), (1, "a", 1), (("set", "a", 1),), ["set", "a", 1], ["back"], "back", ("frames", "a", 0),
    ("left", ("set", "a", 1)), (Picky(),), ("d\u00f6ne", "a"), ("done", "\u00e4"),
]


def summed(body):
    return body + bytes([sum(body) % 256])


NO_BYTES = [
    b"", b"\x00", b"\x02", b"\x02\x03", b"\x02\x02\x02", b"\x00\x00", b"\x07\x07", b"\xff\xff", b"\x01", b"\x01\x01", b"\x01\x01a",
    b"\x01\x01a\x02", b"\x01\x01a\x02d", b"\x01\x01a\x02e\x00", b"\x01\x01a\x02e" * 2, summed(b"\x01\x01a\x04"), summed(b"\x01\x01A\x01"),
    summed(b"\x01\x00\x01"), summed(b"\x01\x09abcdefghi\x01"), summed(b"\x01\x02a\x01"), summed(b"\x01\x01ab\x01"), summed(b"\x06\x00"),
    summed(b"\x06\x01"), summed(b"\x06\x02a"), summed(b"\x06\x01ab"), summed(b"\x06\x01\xe4"), summed(b"\x06\x01`"), summed(b"\x06\x01{"),
    summed(b"\x02\x01a"), summed(b"\x05\x01a"), summed(b"\x05\x01a\xff"), summed(b"\x05\xffa\x00"), summed(b"\x06\xff"), summed(b"\x06\x01a\x00"),
    summed(b"\x07\x01a\x00"), b"\x04\x03", b"\x01\x05", summed(b"\x01\x01a\x01\x01"),
]


class BytesTest(unittest.TestCase):
    def test_letters(self):
        for letter, data in LETTERS.items():
            self.assertEqual(pack(letter), data)
            self.assertEqual(unpack(data), letter)
            self.assertIsInstance(pack(letter), bytes)

    def test_all_letters_and_back(self):
        letters = [("back",), ("answer",), ("no",)]
        for word in ("a", "z", "ab", "set", "answer", "abcdefgh", "zzzzzzzz"):
            letters += [(kind, word, number) for kind in ("set", "frame") for number in range(4)] + [("done", word)]
        for letter in letters:
            self.assertEqual(unpack(pack(letter)), letter)
            self.assertEqual([part.__class__ for part in unpack(pack(letter))], [part.__class__ for part in letter])
        self.assertEqual(len({pack(letter) for letter in letters}), len(letters))

    def test_the_last_byte_is_the_sum_modulo_256(self):
        self.assertEqual(sum(LETTERS[("set", "zzzzzzzz", 1)][:-1]), 986)
        for data in LETTERS.values():
            self.assertEqual(data, summed(data[:-1]))
            for other in range(256):
                if other != data[-1]:
                    self.assertRaises(BadBytes, unpack, data[:-1] + bytes([other]))

    def test_values_that_are_no_letter(self):
        for value in NO_LETTERS + ODD:
            with self.assertRaises(BadBytes) as told:
                pack(value)
            self.assertIs(told.exception.value, value)

    def test_values_that_are_no_bytes_of_a_letter(self):
        for value in NO_BYTES + ODD + list(LETTERS) + [bytearray(b"\x02\x02"), "\x02\x02", [2, 2], (2, 2), memoryview(b"\x02\x02")]:
            with self.assertRaises(BadBytes) as told:
                unpack(value)
            self.assertIs(told.exception.value, value)

    def test_a_length_that_goes_beyond_the_bytes(self):
        for length in range(2, 256):
            self.assertRaises(BadBytes, unpack, summed(bytes([1, length]) + b"a\x01"))

    def test_all_short_bytes(self):
        """Only those of letters are read."""
        rights = {pack(letter) for letter in [("back",), ("answer",), ("no",)]}
        for data in itertools.product(range(8), repeat=2):
            if bytes(data) in rights:
                self.assertEqual(pack(unpack(bytes(data))), bytes(data))
            else:
                self.assertRaises(BadBytes, unpack, bytes(data))

    def test_each_byte_spoilt(self):
        for data in LETTERS.values():
            for at, byte in itertools.product(range(len(data)), (0, 1, 2, 5, 8, 97, 122, 123, 255)):
                other = data[:at] + bytes([byte]) + data[at + 1:]
                try:
                    letter = unpack(other)
                except BadBytes:
                    continue
                self.assertEqual(pack(letter), other)

    def test_names_of_the_parameters(self):
        self.assertEqual(unpack(data=pack(letter=("done", "b"))), ("done", "b"))


class WireTest(unittest.TestCase):
    def played_example(self):
        wire = Wire(example())
        for name, letter in weaving("left set a 2; right frame a 1; right frame a 0"):
            wire.send(name, letter)
        return wire

    def test_example(self):
        wire = Wire(example())
        self.assertEqual(wire.send("left", ("set", "a", 2)), b"\x01\x01a\x02e")
        self.assertEqual(wire.feed("right", b"\x01\x01a\x02e"), [])
        data = wire.send("right", ("frame", "a", 2))
        self.assertEqual(wire.feed("left", data), [("a", 2, 1, "refused")])
        self.assertEqual(wire.machine.verdicts(), [("a", 2, 1, "refused")])
        self.assertEqual(wire.kept("left"), b"")

    def test_the_machine(self):
        pact = example()
        wire = Wire(pact)
        self.assertIsInstance(wire.machine, Machine)
        self.assertIs(wire.machine.pact, pact)
        self.assertEqual(wire.machine.state, Machine(pact).state)
        self.assertEqual((wire.kept("left"), wire.kept("right")), (b"", b""))

    def test_byte_by_byte(self):
        wire = self.played_example()
        data = pack(("frame", "a", 1)) + pack(("frame", "a", 0))
        told = [wire.feed("left", data[at:at + 1]) for at in range(len(data))]
        self.assertEqual(told, [[]] * 4 + [[("a", 1, 1, "kept")]] + [[]] * 4 + [[("a", 0, 1, "kept")]])

    def test_pieces(self):
        data = pack(("frame", "a", 1)) + pack(("frame", "a", 0))
        for cut in range(len(data) + 1):
            wire = self.played_example()
            told = wire.feed("left", data[:cut])
            self.assertEqual(len(told), cut // 5)
            self.assertEqual(wire.kept("left"), data[5 * (cut // 5):cut])
            self.assertEqual(wire.kept("right"), b"")
            self.assertEqual(wire.feed("left", b""), [])
            self.assertEqual(told + wire.feed("left", data[cut:]), [("a", 1, 1, "kept"), ("a", 0, 1, "kept")])
            self.assertEqual((wire.kept("left"), wire.machine.lane("left")), (b"", []))

    def test_verdicts_that_are_told_twice_stay(self):
        wire = Wire(example())
        data = b"".join(wire.send("right", ("frame", "a", 1)) for _ in range(3))
        self.assertEqual(wire.feed("left", data), [("a", 1, 1, "kept")] * 3)

    def test_what_is_heard_is_not_whole_before_its_sum(self):
        wire = Wire(example())
        data = wire.send("right", ("frame", "a", 1))
        self.assertEqual(wire.feed("left", data[:-1]), [])
        self.assertEqual(wire.machine.lane("left"), [("frame", "a", 1)])
        # The setting is changed ahead of the last byte, so the frame is judged behind it.
        sent = one_way(size(hold="sent"), "heard")
        wire = Wire(sent)
        data = wire.send("right", ("frame", "a", 1))
        wire.feed("left", data[:-1])
        wire.send("left", ("set", "a", 2))
        self.assertEqual(wire.feed("left", data[-1:]), [("a", 1, 2, "kept")])

    def test_all_letters_of_a_room(self):
        pact = one_way(room(hold="sent"), "heard")
        wire = Wire(pact)
        for name, letter in weaving("right frame a 0; left set a 2; left back"):
            wire.send(name, letter)
        self.assertEqual(wire.feed("left", b"\x05\x01a\x00g"), [("a", 1, 1, "kept")])
        self.assertEqual(wire.feed("right", pack(("set", "a", 2)) + pack(("back",))), [])
        self.assertEqual(wire.send("right", ("no",)), b"\x04\x04")
        self.assertEqual(wire.send("left", ("done", "a")), b"\x06\x01ah")
        self.assertEqual(wire.feed("left", b"\x04\x04"), [])
        self.assertEqual(wire.feed("right", b"\x06\x01ah"), [])
        self.assertEqual(wire.machine.state, Machine(pact).state)

    def test_letters_that_may_not_be_sent(self):
        wire = self.played_example()
        state = wire.machine.state
        for letter in NO_LETTERS + ODD + [("set", "a", 1), ("set", "a", 2), ("back",), ("answer",), ("no",), ("frame", "a", 0), ("done", "a")]:
            with self.assertRaises(BadMove) as told:
                wire.send("left", letter)
            self.assertEqual(told.exception.value[0], "left")
            self.assertIs(told.exception.value[1], letter)
            self.assertEqual(len(told.exception.value), 2)
        self.assertRaises(BadMove, wire.send, "right", ("frame", "a", 2))
        self.assertEqual(wire.machine.state, state)

    def test_a_hearing_is_not_sent(self):
        """A letter waits in both lanes, but hearing it is no send."""
        wire = self.played_example()
        state = wire.machine.state
        for name in NAMES:
            self.assertIn((name, HEAR), wire.machine.moves())
            with self.assertRaises(BadMove) as told:
                wire.send(name, HEAR)
            self.assertEqual(told.exception.value, (name, HEAR))
        self.assertEqual(wire.machine.state, state)

    def test_bytes_that_are_not_those_in_the_lane(self):
        first, second = pack(("frame", "a", 1)), pack(("frame", "a", 0))
        for start in range(5):
            wire = self.played_example()
            wire.feed("left", first[:start])
            state = wire.machine.state
            rest = first[start:]
            wrongs = [rest + second + b"\x00", rest + second[:-1] + b"\x00", second + rest, b"\xff", rest + rest + b"x", b"\x00" * 3,
                      rest + second + first, rest + b"\x02\x02"]
            if start > 0:
                # Whole letters of the lane, but behind what is kept.
                wrongs += [first + second, second + first, first, first[:1]]
            for data in wrongs:
                with self.assertRaises(BadBytes, msg=(start, data)) as told:
                    wire.feed("left", data)
                self.assertIs(told.exception.value, data)
                self.assertEqual((wire.kept("left"), wire.machine.state, wire.machine.verdicts()), (first[:start], state, []))
            self.assertEqual(len(wire.feed("left", rest + second)), 2)

    def test_nothing_in_the_lane(self):
        wire = Wire(example())
        self.assertEqual(wire.feed("left", b""), [])
        for data in (b"\x02", b"\x00", pack(("back",))):
            self.assertRaises(BadBytes, wire.feed, "left", data)
        # What the end has sent itself is not on its way to it.
        data = wire.send("left", ("set", "a", 2))
        self.assertRaises(BadBytes, wire.feed, "left", data)
        self.assertEqual(wire.feed("right", data), [])

    def test_what_is_kept_grows_as_the_lane_does(self):
        wire = Wire(example())
        one = wire.send("right", ("frame", "a", 1))
        wire.feed("left", one[:3])
        two = wire.send("right", ("frame", "a", 0))
        self.assertEqual(wire.feed("left", one[3:] + two[:2]), [("a", 1, 1, "kept")])
        self.assertEqual(wire.kept("left"), two[:2])
        self.assertEqual(wire.machine.lane("left"), [("frame", "a", 0)])

    def test_both_ends_at_once(self):
        wire = Wire(two_way())
        to_right = wire.send("left", ("set", "a", 0)) + wire.send("left", ("back",))
        to_left = wire.send("right", ("set", "b", 1)) + wire.send("right", ("frame", "a", 1))
        wire.feed("right", to_right[:3])
        wire.feed("left", to_left[:7])
        self.assertEqual((wire.kept("right"), wire.kept("left")), (to_right[:3], to_left[5:7]))
        wire.feed("right", to_right[3:])
        self.assertEqual(wire.feed("left", to_left[7:]), [("a", 1, 1, "kept")])

    def test_the_machine_of_the_letters(self):
        """Pieces cut at random lead a wire to where a machine comes that hears the letters one by one."""
        pacts = list(small_pacts().items()) + [("crowded", crowded()), ("wide", wide()), ("two", two_way())]
        for label, pact in pacts:
            chance = random.Random(label)
            wire, machine = Wire(pact), Machine(pact)
            streams, done = {name: b"" for name in NAMES}, {name: 0 for name in NAMES}
            for _ in range(120):
                name = chance.choice(NAMES)
                sends = [letter for _, letter in machine.moves(name) if letter != HEAR]
                if sends and chance.random() < 0.5:
                    letter = chance.choice(sends)
                    streams[pact.other(name)] += wire.send(name, letter)
                    machine((name, letter))
                else:
                    cut = chance.randrange(len(streams[name]) + 1)
                    told = wire.feed(name, streams[name][:cut])
                    streams[name], done[name] = streams[name][cut:], done[name] + cut
                    verdicts = []
                    while machine.lane(name) and len(pack(machine.lane(name)[0])) <= done[name]:
                        done[name] -= len(pack(machine.lane(name)[0]))
                        verdicts.append(machine((name, HEAR)))
                    self.assertEqual(told, [verdict for verdict in verdicts if verdict is not None])
                    self.assertEqual(len(wire.kept(name)), done[name])
                self.assertEqual((wire.machine.state, wire.machine.verdicts()), (machine.state, machine.verdicts()))

    def test_long_words(self):
        pact = Pact(End({"abcdefgh": table()}, {}, {}, 1), End({}, {"abcdefgh": "heard"}, {}, 1))
        wire = Wire(pact)
        data = wire.send("right", ("frame", "abcdefgh", 1))
        self.assertEqual(len(data), 12)
        self.assertEqual(wire.feed("left", data), [("abcdefgh", 1, 1, "kept")])


class CallsTest(unittest.TestCase):
    def test_values_that_are_no_pact(self):
        for value in ODD + [example().left]:
            with self.assertRaises(BadArgument) as told:
                Wire(value)
            self.assertIs(told.exception.value, value)

    def test_values_that_are_no_name(self):
        wire = Wire(example())
        for value in ODD + ["a", "middle"]:
            for call in (lambda: wire.send(value, None), lambda: wire.send(value, ("set", "a", 2)), lambda: wire.feed(value, None),
                         lambda: wire.feed(value, b""), lambda: wire.kept(value)):
                with self.assertRaises(BadName) as told:
                    call()
                self.assertIs(told.exception.value, value)

    def test_values_that_are_no_bytes(self):
        wire = Wire(example())
        wire.send("left", ("set", "a", 2))
        for value in [value for value in ODD if not isinstance(value, bytes)] + [bytearray(b""), bytearray(b"\x01"), "", []]:
            with self.assertRaises(BadBytes) as told:
                wire.feed("right", value)
            self.assertIs(told.exception.value, value)
        self.assertEqual(wire.kept("right"), b"")

    def test_names_of_the_parameters(self):
        wire = Wire(pact=example())
        data = wire.send(letter=("set", "a", 2), name="left")
        self.assertEqual(wire.feed(data=data[:2], name="right"), [])
        self.assertEqual(wire.kept(name="right"), data[:2])

    def test_lists_belong_to_the_caller(self):
        wire = Wire(example())
        told = wire.feed("left", wire.send("right", ("frame", "a", 1)))
        told.clear()
        self.assertEqual(wire.machine.verdicts(), [("a", 1, 1, "kept")])
        self.assertEqual(move("left hear"), ("left", HEAR))


if __name__ == "__main__":
    unittest.main()
