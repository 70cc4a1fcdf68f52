"""[2] The names of all parameters of the interface, and on which objects things are set when they are made."""

import importlib
import inspect
import unittest

from answeredsettings.console import Console
from answeredsettings.halves import Half
from answeredsettings.machine import Machine
from answeredsettings.sessions import Session
from answeredsettings.wires import Wire
from samples import example

INTERFACE = {
    "settings": ["Setting(sort, size, start, changes, hold)", "Setting.changes()", "Setting.lets(one, other)"],
    "ends": [
        "End(settings, uses, rules, most)", "End.words()", "End.used_words()", "End.setting(word)", "End.use(word)",
        "End.pairs(deed)", "End.lets(deed, opened, owed)", "End.with_pairs(deed, pairs)"],
    "pacts": [
        "Pact(left, right)", "Pact.end(name)", "Pact.other(name)", "Pact.owner(word)", "Pact.words()", "Pact.setting(word)",
        "Pact.with_end(name, end)"],
    "states": ["first_state(pact)"],
    "machine": [
        "Machine(pact)", "Machine.local(name)", "Machine.lane(name)", "Machine.moves(name)", "Machine.verdicts()",
        "Machine.__call__(move)", "Machine.play(weaving)", "Machine.copied()", "played(pact, weaving)", "states_of(pact, weaving)"],
    "search": ["states(pact)", "can_come(pact, value)", "weaving_to(pact, state)", "fewest_moves(pact, state)"],
    "verdicts": ["verdicts(pact, word)", "offences(pact)", "is_sound(pact)", "weaving_with(pact, verdict)"],
    "tables": ["table_of(pact)", "lacking(pact, table)", "joined(pact, *tables)", "is_table(pact, value)"],
    "claims": ["holds(pact, claim)", "is_shown(pact, value, claim)", "against(pact, claim)"],
    "waits": [
        "stuck_states(pact)", "lost_states(pact, name)", "first_stuck(pact)", "first_lost(pact, name)",
        "fewest_to_answer(pact, state, name)", "greatest_wait(pact, name)"],
    "marks": ["places(pact, word)", "spread(pact, word)", "least_marks(pact, word)", "place_weaving(pact, word, place)"],
    "menus": [
        "taken_out(pact, menu, choice)", "let_in(pact, menu, choice)", "least_taken_out(pact, menu, wishes)",
        "greatest_let_in(pact, menu, wishes)"],
    "alike": ["are_alike(pact, name, end)", "first_parting(pact, name, end)", "alike_ends(pact, name, ends)"],
    "counting": ["count_weavings(pact, length)", "count_shortest(pact, state)", "shortest_weavings(pact, state)"],
    "keeping": [
        "can_keep(pact, name, claim)", "safe_sends(pact, name, claim, state)", "kept_states(pact, name, claim)",
        "forcing(pact, name, claim)"],
    "forms": [
        "rows_of(pact, word)", "met_by_rows(pact, word)", "fates_by_rows(pact, word)", "room_by_rows(pact, word)",
        "never_takes_back(pact, name)", "is_plain(pact, word)"],
    "rooms": ["room_places(pact, word)", "most_held(pact, word)", "most_lost(pact, word)"],
    "halves": ["Half(pact, name, rows)", "Half.fault()", "Half.verdicts()", "half_of(pact, name)", "joins(left, right)"],
    "notes": [
        "write_setting(setting)", "write_end(end)", "write_pact(pact)", "write_move(move)", "write_weaving(weaving)",
        "read_setting(text)", "read_end(text)", "read_pact(text)", "read_move(text)", "read_weaving(text)"],
    "values": ["write_value(value)", "read_value(text)"],
    "wires": ["pack(letter)", "unpack(data)", "Wire(pact)", "Wire.send(name, letter)", "Wire.feed(name, data)", "Wire.kept(name)"],
    "sessions": [
        "Session(pact)", "Session.put(name, end)", "Session.rule(name, deed, pairs)", "Session.undo()",
        "Session.file(claim, table)", "Session.standing()", "Session.offences()", "Session.attempt(deed)", "Session.trying()"],
    "console": ["Console(pact)", "Console.say(row)"],
    "papers": ["wait_paper(pact, name)", "is_wait_paper(pact, value, name, many)"],
}


class InterfaceTest(unittest.TestCase):
    def test_names_of_all_parameters(self):
        for file, rows in INTERFACE.items():
            module = importlib.import_module("answeredsettings." + file)
            for row in rows:
                path, _, rest = row.rstrip(")").partition("(")
                found = module
                for name in path.split("."):
                    found = getattr(found, name)
                told = [str(one).split("=")[0] for one in inspect.signature(found).parameters.values()]
                self.assertEqual([name for name in told if name != "self"], rest.split(", ") if rest else [], row)
                self.assertEqual(found.__module__, module.__name__, row)

    def test_attributes_are_set_when_an_object_is_made(self):
        pact = example()
        for made, names in (
                (pact, ["left", "right"]), (pact.left, ["most"]), (pact.setting("a"), ["kind", "size", "start", "hold"]),
                (Machine(pact), ["pact", "state"]), (Half(pact, "left", {}), ["pact", "name"]), (Wire(pact), ["machine"]),
                (Session(pact), ["present"]), (Console(pact), ["session", "machine"])):
            for name in names:
                self.assertIsNotNone(getattr(made, name), (made.__class__, name))

    def test_objects_that_never_change(self):
        pact = example()
        for made, names in (
                (pact, ["left", "right"]), (pact.left, ["most"]), (pact.setting("a"), ["kind", "size", "start", "hold"]),
                (Machine(pact), ["pact", "state"]), (Half(pact, "left", {}), ["pact", "name"])):
            for name in names:
                with self.assertRaises(AttributeError):
                    setattr(made, name, None)


if __name__ == "__main__":
    unittest.main()
