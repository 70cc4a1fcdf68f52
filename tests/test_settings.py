"""[2], [3] Settings."""

import unittest

from answeredsettings.errors import BadSetting
from answeredsettings.settings import Setting
from samples import ODD, Picky, Same

GOOD = {"sort": "size", "size": 3, "start": 1, "changes": [(1, 2), (2, 1)], "hold": "answered"}


def made(**other):
    return Setting(**{**GOOD, **other})


class SettingTest(unittest.TestCase):
    def assert_wrong(self, part, **other):
        with self.assertRaises(BadSetting, msg=repr(other)) as told:
            made(**other)
        self.assertEqual(told.exception.part, part, other)

    def test_properties(self):
        for sort in ("size", "table", "room"):
            for hold in ("sent", "answered", "open"):
                if (sort, hold) == ("table", "open"):
                    continue
                setting = Setting(sort, 4, 3, [(0, 3)], hold)
                self.assertEqual((setting.kind, setting.size, setting.start, setting.hold), (sort, 4, 3, hold))
                self.assertEqual(setting.changes(), [(0, 3)])

    def test_position_and_name_are_the_same(self):
        self.assertEqual(Setting("size", 3, 1, [(1, 2), (2, 1)], "answered"), made())
        self.assertTrue(made().lets(one=1, other=2))

    def test_properties_cannot_be_assigned(self):
        for part in ("kind", "size", "start", "hold"):
            with self.assertRaises(AttributeError):
                setattr(made(), part, 2)

    def test_sizes(self):
        for many in (2, 3, 4):
            for start in range(many):
                pairs = [(one, other) for one in range(many) for other in range(many) if one != other]
                setting = made(size=many, start=start, changes=pairs)
                self.assertEqual((setting.size, setting.start, setting.changes()), (many, start, pairs))

    def test_no_changes(self):
        self.assertEqual(made(changes=[]).changes(), [])
        self.assertFalse(made(changes=[]).lets(1, 2))

    def test_wrong_sorts(self):
        for value in ODD + ["sizes", "Size", "frame", ["size"], ("size",), b"size"]:
            self.assert_wrong("sort", sort=value)

    def test_wrong_sizes(self):
        for value in [None, True, False, 0, 1, 5, -2, 2.0, 3.0, "3", "size", (3,), [3], {}, {3: 3}, object(), Picky()]:
            self.assert_wrong("size", size=value)

    def test_wrong_starts(self):
        for value in [None, True, False, -1, 3, 4, 0.0, 1.0, "1", "", (1,), [1], {}, object(), Picky(), Same()]:
            self.assert_wrong("start", start=value)
        self.assert_wrong("start", size=2, start=2)
        self.assert_wrong("start", size=4, start=4)

    def test_changes_that_are_no_list(self):
        for value in [None, True, 0, "", "ab", (), ((1, 2),), {}, {(1, 2): True}, {(1, 2)}, object(), Picky()]:
            self.assert_wrong("changes", changes=value)
        self.assert_wrong("changes", changes=iter([(1, 2)]))

    def test_changes_with_a_wrong_pair(self):
        wrong = [
            None, 1, "12", (), (1,), (1, 2, 0), [1, 2], (1, 1), (0, 0), (1, 3), (3, 1), (-1, 1), (1, -1), (True, 2),
            (2, True), (False, 1), (1, None), (None, 1), (1.0, 2), (1, 2.0), ("1", "2"), ((1,), 2), ([], 1), {1: 2},
            {1, 2}, (Picky(), 1), (1, Picky()), Picky(), (Same(), 1), object(),
        ]
        for pair in wrong:
            self.assert_wrong("changes", changes=[pair])
            self.assert_wrong("changes", changes=[(1, 2), pair])
            self.assert_wrong("changes", changes=[pair, (1, 2)])

    def test_changes_hang_on_the_size(self):
        self.assert_wrong("changes", size=2, start=0, changes=[(0, 1), (1, 2)])
        self.assertTrue(made(size=4, changes=[(0, 3)]).lets(0, 3))

    def test_wrong_holds(self):
        for value in ODD + ["heard", "opened", "Sent", ["sent"], b"sent"]:
            self.assert_wrong("hold", hold=value)

    def test_no_open_table(self):
        self.assert_wrong("hold", sort="table", hold="open")
        self.assertEqual(made(sort="room", hold="open").hold, "open")
        self.assertEqual(made(sort="size", hold="open").hold, "open")

    def test_first_wrong_part_is_told(self):
        parts = ["sort", "size", "start", "changes", "hold"]
        for first in range(5):
            self.assert_wrong(parts[first], **{part: None for part in parts[first:]})
            for second in range(first + 1, 5):
                self.assert_wrong(parts[first], **{parts[first]: Picky(), parts[second]: {}})

    def test_lets(self):
        setting = made()
        told = [(one, other) for one in range(3) for other in range(3) if setting.lets(one, other)]
        self.assertEqual(told, [(1, 2), (2, 1)])

    def test_lets_of_any_values(self):
        setting = made(changes=[(0, 1), (1, 0), (1, 2), (2, 1)])
        for value in [None, True, False, 1.0, 2.0, "1", -1, 3, (1, 2), [1], {}, Picky(), Same()]:
            for good in (0, 1, 2):
                self.assertIs(setting.lets(value, good), False)
                self.assertIs(setting.lets(good, value), False)
            self.assertIs(setting.lets(value, value), False)
        self.assertIs(setting.lets(1, 2), True)

    def test_changes_are_ascending_and_without_doubles(self):
        setting = made(changes=[(2, 1), (1, 2), (2, 1), (0, 2), (0, 1), (1, 2)])
        self.assertEqual(setting.changes(), [(0, 1), (0, 2), (1, 2), (2, 1)])

    def test_lists_belong_to_the_caller(self):
        changes = [(1, 2)]
        setting = made(changes=changes)
        changes.append((2, 0))
        changes[0] = (0, 1)
        self.assertEqual(setting.changes(), [(1, 2)])
        self.assertFalse(setting.lets(2, 0))
        told = setting.changes()
        told.append((2, 0))
        told[0] = None
        self.assertEqual(setting.changes(), [(1, 2)])
        self.assertTrue(setting.lets(1, 2))
        self.assertEqual(setting, made(changes=[(1, 2)]))

    def test_given_list_is_not_changed(self):
        changes = [(2, 1), (1, 2), (2, 1)]
        made(changes=changes).changes()
        self.assertEqual(changes, [(2, 1), (1, 2), (2, 1)])

    def test_equal(self):
        self.assertTrue(made() == made(changes=[(2, 1), (1, 2), (1, 2)]))
        self.assertFalse(made() != made())
        for other in (
            made(sort="table"), made(size=4), made(start=2), made(changes=[(1, 2)]), made(changes=[]), made(hold="sent"),
        ):
            self.assertFalse(made() == other)
            self.assertTrue(made() != other)

    def test_equal_with_another_class(self):
        for value in ODD:
            if not isinstance(value, Picky):
                self.assertIs(made() == value, False)


if __name__ == "__main__":
    unittest.main()
