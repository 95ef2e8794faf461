"""Deeds: which rows they take and what becomes of rows."""

import unittest

from emptyfilters.conds import Cond
from emptyfilters.deeds import Deed, Delete, Update
from emptyfilters.errors import BadColumn
from emptyfilters.tables import Table

TABLE = Table(["id", "owner"])
ROWS = [(1, 1), (1, 2), (2, 1), (2, 2), (10 ** 199, -(10 ** 199)), (1, 1)]


def deeds_with(cond):
    return [Deed(cond), Delete(cond), Update(cond, {"owner": 5}), Update(cond, {})]


class Taking(unittest.TestCase):
    def test_takes(self):
        for text in ("id = 1", "every", "none", "blank", "id = owner", "~(id = 1 | blank)"):
            cond = Cond(text, TABLE)
            for deed in deeds_with(cond):
                self.assertEqual(deed.table, TABLE)
                for row in ROWS:
                    self.assertIs(deed.takes(row), row in cond)
                    self.assertIs(deed.takes(row=row), row in cond)

    def test_a_blank_condition_takes_every_row(self):
        for cond in (Cond.blank(TABLE), Cond.any_of(TABLE), ~Cond("blank | blank", TABLE)):
            for deed in deeds_with(cond):
                self.assertTrue(all(deed.takes(row) for row in ROWS))

    def test_deeds_of_deed(self):
        cond = Cond("id = 1", TABLE)
        self.assertIsInstance(Delete(cond), Deed)
        self.assertIsInstance(Update(cond, {}), Deed)
        self.assertNotIsInstance(Delete(cond), Update)
        for kind in (Deed, Delete, Update):
            self.assertEqual(kind.__module__, "emptyfilters.deeds")
            self.assertIn("becomes", vars(kind))

    def test_equal_to_nothing_of_another_class(self):
        cond = Cond("id = 1", TABLE)
        for deed in deeds_with(cond):
            for thing in (cond, None, True, 1, "id = 1", TABLE, ROWS[0]):
                self.assertFalse(deed == thing)
                self.assertFalse(thing == deed)


class Becoming(unittest.TestCase):
    def test_a_plain_deed_leaves_each_row(self):
        for text in ("every", "none", "blank", "id = 1"):
            for row in ROWS:
                self.assertEqual(Deed(Cond(text, TABLE)).becomes(row), row)
                self.assertEqual(Deed(condition=Cond(text, TABLE)).becomes(row=row), row)

    def test_delete(self):
        for text in ("every", "none", "blank", "id = 1"):
            cond = Cond(text, TABLE)
            for row in ROWS:
                self.assertEqual(Delete(cond).becomes(row), None if row in cond else row)
                self.assertEqual(Delete(condition=cond).becomes(row=row), None if row in cond else row)

    def test_update(self):
        for text in ("every", "none", "blank", "owner = 2"):
            cond = Cond(text, TABLE)
            for row in ROWS:
                for changes in ({}, {"id": 7}, {"owner": 2}, {"owner": -3, "id": 0}, {"id": 10 ** 199}):
                    new = (changes.get("id", row[0]), changes.get("owner", row[1]))
                    expected = new if row in cond else row
                    self.assertEqual(Update(cond, changes).becomes(row), expected)
                    self.assertEqual(Update(condition=cond, changes=changes).becomes(row=row), expected)
                    self.assertIs(type(Update(cond, changes).becomes(row)), tuple)

    def test_a_row_that_has_the_values_is_taken(self):
        deed = Update(Cond("id = 1", TABLE), {"owner": 1})
        self.assertTrue(deed.takes((1, 1)))
        self.assertEqual(deed.becomes((1, 1)), (1, 1))

    def test_a_changed_row_is_looked_at_as_it_was(self):
        deed = Update(Cond("id = 1", TABLE), {"id": 2})
        self.assertEqual(deed.becomes((1, 5)), (2, 5))
        self.assertEqual(deed.becomes((2, 5)), (2, 5))
        self.assertFalse(deed.takes((2, 5)))

    def test_one_and_three_columns(self):
        one, three = Table(["a"]), Table(["a", "b", "c"])
        self.assertEqual(Update(Cond.every(one), {"a": 4}).becomes((3,)), (4,))
        self.assertEqual(Update(Cond("b = 2", three), {"c": 4, "a": 0}).becomes((1, 2, 3)), (0, 2, 4))
        self.assertIsNone(Delete(Cond("c = a", three)).becomes((1, 2, 1)))


class Copies(unittest.TestCase):
    def test_later_changes_of_the_condition(self):
        cond = Cond("id = 1", TABLE)
        before = deeds_with(cond)
        cond |= Cond("id = 2", TABLE)
        between = deeds_with(cond)
        cond &= Cond.none(TABLE)
        behind = deeds_with(cond)
        for deeds, takes in ((before, [True, False, False]), (between, [True, True, False]), (behind, [False] * 3)):
            for deed in deeds:
                self.assertEqual([deed.takes((number, 0)) for number in (1, 2, 3)], takes)
        self.assertEqual([deed.becomes((1, 0)) for deed in before], [(1, 0), None, (1, 5), (1, 0)])
        self.assertEqual([deed.becomes((2, 0)) for deed in before], [(2, 0)] * 4)
        self.assertEqual([deed.becomes((1, 0)) for deed in behind], [(1, 0)] * 4)

    def test_a_blank_condition_that_is_filled_later(self):
        cond = Cond.blank(TABLE)
        deed = Delete(cond)
        cond |= Cond("id = 1", TABLE)
        self.assertTrue(deed.takes((2, 0)))
        self.assertFalse(Delete(cond).takes((2, 0)))

    def test_later_changes_of_the_dict(self):
        changes = {"owner": 5}
        deed = Update(Cond.every(TABLE), changes)
        changes["owner"] = 6
        changes["id"] = 7
        self.assertEqual(deed.becomes((1, 2)), (1, 5))

    def test_the_arguments_stay(self):
        cond, changes = Cond("id=1", TABLE), {"owner": 5, "id": 3}
        deed = Update(cond, changes)
        deed.becomes((1, 1))
        self.assertEqual(changes, {"owner": 5, "id": 3})
        self.assertEqual(list(changes), ["owner", "id"])
        self.assertEqual(str(cond), "id = 1")


class WrongColumns(unittest.TestCase):
    def check(self, changes, name):
        before = list(changes.items())
        with self.assertRaises(BadColumn) as caught:
            Update(Cond("id = 1", TABLE), changes)
        self.assertEqual(caught.exception.name, name)
        self.assertEqual(list(changes.items()), before)

    def test_one(self):
        for name in ("ids", "other", "", "ID", "id ", "every", "a" * 50, "owner,id", "-"):
            self.check({name: 1}, name)
            self.check({"id": 0, name: 1}, name)
            self.check({name: 1, "owner": 2}, name)

    def test_the_first_in_ascending_order(self):
        self.check({"z": 1, "b": 2, "id": 3, "c": 4}, "b")
        self.check({"c": 1, "b": 2, "a": 3}, "a")
        self.check({"a": 3, "b": 2, "c": 1}, "a")
        self.check({"owner": 1, "zz": 2, "z": 3}, "z")
        self.check({"b": 1, "B": 2}, "B")

    def test_columns_of_another_table(self):
        with self.assertRaises(BadColumn) as caught:
            Update(Cond.blank(Table(["a"])), {"owner": 1, "id": 2})
        self.assertEqual(caught.exception.name, "id")


if __name__ == "__main__":
    unittest.main()
