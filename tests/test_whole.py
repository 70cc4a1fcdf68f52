"""[1] The whole program, on pacts made at random of several forms: what each module tells agrees with the others."""

import functools
import itertools
import random
import unittest
from unittest import mock

import oracle
import stepping
from answeredsettings import spaces
from answeredsettings.alike import are_alike, first_parting
from answeredsettings.claims import against, holds, is_shown
from answeredsettings.console import Console
from answeredsettings.ends import DEEDS, End
from answeredsettings.errors import TooMany
from answeredsettings.forms import fates_by_rows, met_by_rows, never_takes_back
from answeredsettings.halves import Half, half_of, joins
from answeredsettings.keeping import can_keep, forcing, kept_states
from answeredsettings.machine import Machine, played
from answeredsettings.marks import least_marks, place_weaving, places, spread
from answeredsettings.menus import greatest_let_in, least_taken_out, let_in, taken_out
from answeredsettings.notes import read_pact, read_weaving, write_pact, write_weaving
from answeredsettings.pacts import NAMES, Pact
from answeredsettings.papers import is_wait_paper, wait_paper
from answeredsettings.rooms import most_held, most_lost, room_places
from answeredsettings.search import can_come, fewest_moves, states, weaving_to
from answeredsettings.sessions import Session
from answeredsettings.settings import Setting
from answeredsettings.tables import is_table, table_of
from answeredsettings.values import read_value, write_value
from answeredsettings.verdicts import is_sound, offences, verdicts, weaving_with
from answeredsettings.waits import first_lost, first_stuck, greatest_wait, lost_states, stuck_states
from answeredsettings.wires import Wire
from samples import small_pacts
from test_claims import claims_about
from test_forms import pairs_and_fates

MOST_STATES = 700


def some_setting(chance):
    kind = chance.choice(["size", "table", "room"])
    many = chance.choice([2, 2, 3, 4])
    pairs = [(one, other) for one, other in itertools.permutations(range(many), 2)]
    hold = chance.choice(["sent", "answered"] + ["open"] * (kind != "table"))
    return Setting(kind, many, chance.randrange(many), chance.sample(pairs, chance.randrange(1, 3)), hold)


def some_end(chance, settings, uses):
    rules = {}
    for deed in DEEDS:
        if chance.random() < (0.6 if deed == "back" else 0.15):
            pairs = [(opened, owed) for opened in range(2) for owed in range(2)]
            rules[deed] = [] if deed == "back" else chance.sample(pairs, chance.randrange(1, 4))
    return End(settings, {word: chance.choice(["heard", "answered"]) for word in uses}, rules, chance.choice([1, 1, 2]))


def some_pact(seed):
    """A pact with few watched states; the seed tells of how many settings and of which sorts."""
    chance = random.Random(seed)
    while True:
        owned = chance.choice([("a", ""), ("", "a"), ("ab", ""), ("a", "b")])
        settings = {word: some_setting(chance) for word in "".join(owned)}
        if any([settings[word].kind for word in words].count("room") > 1 for words in owned):
            continue
        left, right = ({word: settings[word] for word in words} for words in owned)
        pact = Pact(some_end(chance, left, owned[1]), some_end(chance, right, owned[0]))
        with mock.patch.object(spaces, "LIMIT", MOST_STATES):
            try:
                if len(states(pact)) > 10:
                    return pact
            except TooMany:
                continue


@functools.lru_cache(maxsize=None)
def pacts():
    """Pacts of several forms; not to be changed."""
    return [some_pact(seed) for seed in range(24)]


def rooms_of(pact):
    return [word for word in pact.words() if pact.setting(word).kind == "room"]


def marked_words(pact):
    return [word for word in pact.words() if pact.setting(word).kind != "room"]


def with_few_frames(pact, state):
    """A state with all frames to sizes and tables taken out of its lanes but one, for each of them, and with none."""
    watched = [(lane, at) for lane in (2, 3) for at, letter in enumerate(state[lane]) if stepping.is_watched(pact, letter)]
    for kept in watched + [None]:
        lanes = [tuple(letter for at, letter in enumerate(state[lane]) if (lane, at) not in watched or (lane, at) == kept)
                 for lane in (2, 3)]
        yield state[:2] + tuple(lanes)


def some_play(pact, seed, moves=150, most=6):
    """The steps of a machine that makes moves at random, with some letters in the lanes."""
    chance = random.Random(seed)
    machine = Machine(pact)
    for _ in range(moves):
        found = machine.moves()
        if len(machine.state[2] + machine.state[3]) >= most:
            found = [move for move in found if move[1] == ("hear",)]
        if not found:
            return
        move = chance.choice(found)
        yield machine.copied(), move, machine(move), machine


class WholeTest(unittest.TestCase):
    def test_forms_are_met(self):
        """The pacts made at random are of all sorts, holds and uses, sound and not, with one setting and two."""
        settings = [(pact.setting(word), pact.end(pact.other(pact.owner(word))).use(word))
                    for pact in pacts() for word in pact.words()]
        self.assertEqual({one.kind for one, _ in settings}, {"size", "table", "room"})
        self.assertEqual({one.hold for one, _ in settings}, {"sent", "answered", "open"})
        self.assertEqual({use for _, use in settings}, {"heard", "answered"})
        self.assertEqual({one.size for one, _ in settings}, {2, 3, 4})
        self.assertEqual({is_sound(pact) for pact in pacts()}, {True, False})
        self.assertEqual({len(pact.words()) for pact in pacts()}, {1, 2})
        self.assertEqual({most for pact in pacts() for most in (pact.left.most, pact.right.most)}, {1, 2})

    def test_a_just_those_states_that_weavings_come_to(self):
        for pact in pacts():
            known, found = oracle.explored(pact)
            told = states(pact)
            self.assertEqual(told, sorted(known, key=str))
            for state in told[::1 + len(told) // 12]:
                self.assertEqual(fewest_moves(pact, state), known[state])
            self.assertEqual(sorted(found, key=str), sorted(
                (verdict for word in pact.words() for verdict in verdicts(pact, word)), key=str))

    def test_a_and_g_any_number_of_frames(self):
        """A machine with many frames under way comes to no other local states and tells no other verdicts."""
        for at, pact in enumerate(pacts()):
            inside = set(states(pact))
            found = {verdict for word in pact.words() for verdict in verdicts(pact, word)}
            for seed in range(3):
                for _, _, verdict, machine in some_play(pact, f"{at} {seed}"):
                    if verdict is not None:
                        self.assertIn(verdict, found)
                    for state in with_few_frames(pact, machine.state):
                        self.assertIn(state, inside)

    def test_b_what_can_be_is_shown_by_a_weaving(self):
        for pact in pacts():
            told = states(pact)
            for state in told[::1 + len(told) // 12]:
                way = weaving_to(pact, state)
                self.assertEqual(played(pact, way).state, state)
            for word in pact.words():
                for verdict in verdicts(pact, word):
                    way = weaving_with(pact, verdict)
                    self.assertEqual(played(pact, way).verdicts()[-1], verdict)
                    self.assertEqual(len(way), oracle.explored(pact, len(way))[1][verdict])
                    self.assertNotIn(verdict, oracle.explored(pact, len(way) - 1)[1])

    def test_b_claims_are_shown_by_tables_or_broken_by_weavings(self):
        for at, pact in enumerate(pacts()):
            rows = table_of(pact)
            self.assertTrue(is_table(pact, rows))
            for claim in list(claims_about(pact, rows))[at % 5::5]:
                way = against(pact, claim)
                self.assertIs(holds(pact, claim), way is None)
                self.assertIs(is_shown(pact, rows, claim), way is None)
                self.assertIs(is_shown(pact, rows[:-1], claim), False)
                if way is not None:
                    machine = played(pact, way)
                    self.assertIs(is_shown(pact, rows + [machine.state], claim), False)
                    if claim[0] in ("open", "owed"):
                        local = machine.local(claim[1])
                        self.assertEqual(len(local[1 if claim[0] == "open" else 2]), claim[2] + 1)

    def test_c_and_d_waits(self):
        for pact in pacts():
            rows = stepping.graph(pact, most=0)
            stuck = [state for state in rows if not stepping.steps(pact, state) and any(
                state[end][part] for end in (0, 1) for part in (1, 2))]
            self.assertEqual(stuck_states(pact), sorted(stuck, key=str))
            self.assertEqual(first_stuck(pact) is None, not stuck)
            for name in NAMES:
                many, paper = greatest_wait(pact, name), wait_paper(pact, name)
                self.assertEqual(many is None, bool(lost_states(pact, name)))
                self.assertEqual(many is None, first_lost(pact, name) is not None)
                self.assertEqual(many is None, paper is None)
                if paper is not None:
                    self.assertIs(is_wait_paper(pact, paper, name, many), True)
                    self.assertIs(many > 0 and is_wait_paper(pact, paper, name, many - 1), False)
                for state in stuck:
                    if state[NAMES.index(name)][1]:
                        self.assertIn(state, lost_states(pact, name))

    def test_d_rooms(self):
        for at, pact in enumerate(pacts()):
            for word in rooms_of(pact):
                told = room_places(pact, word)
                for (most, way), part in ((most_held(pact, word), 0), (most_lost(pact, word), 3)):
                    self.assertEqual(most, max(places[part] for places in told))
                    machine = played(pact, way)
                    if part == 0:
                        self.assertEqual(machine.local(pact.owner(word))[5], (most,))
                    else:
                        self.assertEqual([verdict[3] for verdict in machine.verdicts()].count("passed"), most)
                for _, _, verdict, machine in some_play(pact, f"rooms {at}"):
                    self.assertLessEqual(machine.local(pact.owner(word))[5][0], most_held(pact, word)[0])

    def test_d_marks(self):
        for pact in pacts():
            for word in marked_words(pact):
                told = oracle.hearings(pact, word)
                self.assertEqual(places(pact, word), sorted(told.fewest))
                self.assertEqual((spread(pact, word), least_marks(pact, word)), (told.spread(), told.least()))
                for place, many in told.fewest.items():
                    way = place_weaving(pact, word, place)
                    self.assertEqual(len(way), many)
                    self.assertEqual(played(pact, way).verdicts()[-1][0], word)

    def test_d_rows(self):
        for pact in pacts():
            for word in pact.words():
                if never_takes_back(pact, pact.owner(word)):
                    pairs, fates = pairs_and_fates(pact, word)
                    self.assertLessEqual(set(pairs), set(met_by_rows(pact, word)))
                    self.assertLessEqual(set(fates), set(fates_by_rows(pact, word)))

    def test_e_least_and_greatest_rules(self):
        for at, pact in enumerate(pacts()):
            if at % 4 == 0:
                wishes = [("kept", word) for word in pact.words()]
                menu = [("left", "set", (0, 0)), ("right", "frame", (0, 0)), ("left", "frame", (0, 1)), ("right", "set", (0, 0))]
                choices = [choice for long in range(5) for choice in itertools.combinations(range(4), long)]
                meets = {choice: all(holds(taken_out(pact, menu, choice), wish) for wish in wishes) for choice in choices}
                least = [choice for choice in choices if meets[choice]
                         and not any(meets[other] for other in choices if set(other) < set(choice))]
                self.assertEqual(least_taken_out(pact, menu, wishes), least)
                tight = taken_out(pact, menu, (0, 1, 2, 3))
                meets = {choice: all(holds(let_in(tight, menu, choice), wish) for wish in wishes) for choice in choices}
                greatest = [choice for choice in choices if meets[choice]
                            and not any(meets[other] for other in choices if set(choice) < set(other))]
                self.assertEqual(greatest_let_in(tight, menu, wishes), greatest)

    def test_f_alike(self):
        for pact in pacts():
            for name in NAMES:
                end = pact.end(name)
                self.assertIs(are_alike(pact, name, end), True)
                for deed in DEEDS:
                    other = end.with_pairs(deed, [])
                    row = first_parting(pact, name, other)
                    self.assertIs(are_alike(pact, name, other), row is None)
                    if row is not None:
                        # The other end lacks this deed, and nothing else.
                        self.assertEqual(row[-1][0], "send")
                        self.assertIn(row[-1][1][0], {"answer": ["answer", "no"]}.get(deed, [deed]))

    def test_g_halves_and_wires(self):
        for at, pact in enumerate(pacts()):
            halves = {name: half_of(pact, name) for name in NAMES}
            self.assertIsNone(joins(halves["left"], halves["right"]))
            self.assertEqual([half.fault() for half in halves.values()], [None, None])
            wire, streams = Wire(pact), {name: [] for name in NAMES}
            for before, (name, letter), verdict, machine in some_play(pact, f"halves {at}"):
                if letter == ("hear",):
                    self.assertIn(before.lane(name)[0], halves[name][before.local(name)])
                    self.assertEqual(wire.feed(name, streams[name].pop(0)), [verdict] if verdict is not None else [])
                else:
                    streams[pact.other(name)].append(wire.send(name, letter))
                self.assertEqual(wire.machine.state, machine.state)
                self.assertIn(machine.local(name), halves[name])

    def test_g_halves_that_take_less_for_granted(self):
        for at, pact in enumerate(pacts()):
            left, right = half_of(pact, "left"), half_of(pact, "right")
            chance = random.Random(at)
            heard = [(local, letter) for local in left for letter in left[local]]
            if heard:
                local, letter = chance.choice(heard)
                rows = {one: [other for other in left[one] if (one, other) != (local, letter)] for one in left}
                way = joins(Half(pact, "left", rows), right)
                machine = played(pact, way[:-1])
                self.assertEqual((machine.local("left"), machine.lane("left")[0], way[-1]), (local, letter, ("left", ("hear",))))

    def test_keeping(self):
        for pact in pacts():
            for word in pact.words():
                for name in NAMES:
                    way = forcing(pact, name, ("kept", word))
                    self.assertIs(can_keep(pact, name, ("kept", word)), way is None)
                    if way is not None:
                        self.assertNotEqual(played(pact, way).verdicts()[-1][3], "kept")
                    else:
                        self.assertLessEqual(set(kept_states(pact, name, ("kept", word))), set(states(pact)))

    def test_h_what_is_written_is_read_back(self):
        for pact in pacts():
            self.assertEqual(read_pact(write_pact(pact)), pact)
            self.assertEqual(states(read_pact(write_pact(pact))), states(pact))
            rows = states(pact)[:40]
            self.assertEqual(read_value(write_value(rows)), rows)
            way = weaving_to(pact, rows[-1])
            self.assertEqual(read_weaving(write_weaving(way)), way)

    def test_h_an_attempt_is_taken_back(self):
        for pact in pacts():
            session = Session(pact)
            found = session.attempt(lambda given: [given.rule("left", "set", []), given.put("right", pact.right), given.offences()][-1])
            self.assertLessEqual(set(found), set(offences(pact)))
            self.assertEqual((len(session), session.present, session.offences()), (0, pact, offences(pact)))
            console = Console(pact)
            told = console.say("try rule left set")
            self.assertEqual(told, "; ".join(write_value(verdict) for verdict in found) or "none")
            self.assertEqual(console.say("pact"), write_pact(pact).replace("\n", " / "))

    def test_what_is_told_twice_is_the_same(self):
        for pact in pacts():
            again = read_pact(write_pact(pact))
            state = states(pact)[-1]
            self.assertEqual(weaving_to(again, state), weaving_to(pact, state))
            self.assertEqual(first_stuck(again), first_stuck(pact))
            for name in NAMES:
                self.assertEqual(first_lost(again, name), first_lost(pact, name))
                self.assertEqual(wait_paper(again, name), wait_paper(pact, name))
            for word in rooms_of(pact):
                self.assertEqual(most_lost(again, word), most_lost(pact, word))


class SmallTest(unittest.TestCase):
    def test_states_that_cannot_be_come_to_are_told(self):
        """Each watched state one letter away from one that can be come to is told right."""
        for label in ("example", "table sent heard"):
            pact = small_pacts()[label]
            inside = set(states(pact))
            for state in list(inside):
                for lane in (2, 3):
                    for at in range(len(state[lane])):
                        near = list(state)
                        near[lane] = state[lane][:at] + state[lane][at + 1:]
                        self.assertIs(can_come(pact, tuple(near)), tuple(near) in inside)


if __name__ == "__main__":
    unittest.main()
