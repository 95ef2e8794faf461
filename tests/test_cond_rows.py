"""Conditions compared: equality, rows that one takes beyond another, rows that show a column."""

import itertools
import random
import unittest

import oracle
from emptyfilters.conds import Cond
from emptyfilters.errors import WrongTable
from emptyfilters.tables import Table

TABLES = [Table(["id"]), Table(["id", "owner"]), Table(["id", "owner", "state"])]
ONE, TWO, THREE = TABLES

FAR = 10 ** 29

NUMBERS = ([], [0], [3, 4], [3, 5], [3, 6], [2, 6], [-1, 0, 1], [0, 2, 5])


def some_pair(chance, table, numbers):
    """Two conditions, as nested tuples and as objects, often nearly equal ones."""
    one = oracle.some_condition(chance, table.columns, numbers, 3)
    other = oracle.some_condition(chance, table.columns, numbers, 3)
    if chance.random() < 0.6:
        test = oracle.some_test(chance, table.columns, numbers)
        other = chance.choice([("&", one, ("|", test, one)), ("|", one, ("&", test, other)), ("~", ("~", one)),
                               ("&", one, test), ("|", one, test)])
    conds = [Cond(" ".join(oracle.tokens_of(part, chance)), table) for part in (one, other)]
    return (one, other), conds


class Compared(unittest.TestCase):
    def pairs(self):
        chance = random.Random(21)
        for table, numbers in itertools.product(TABLES, NUMBERS):
            rows = oracle.rows_near(table.columns, numbers)
            if len(rows) > 6000:
                continue
            for _ in range(12):
                parts, conds = some_pair(chance, table, numbers)
                yield parts, conds, rows

    def test_equality(self):
        found = []
        for (one, other), conds, rows in self.pairs():
            columns = conds[0].table.columns
            same = all(oracle.value(one, columns, row) is oracle.value(other, columns, row) for row in rows)
            self.assertIs(conds[0] == conds[1], same, conds)
            self.assertIs(conds[1] == conds[0], same, conds)
            self.assertIs(conds[0] != conds[1], not same, conds)
            self.assertTrue(conds[0] == conds[0])
            found.append(same)
        self.assertGreater(found.count(True), 50)
        self.assertGreater(found.count(False), 50)

    def test_row_beyond(self):
        found = []
        for (one, other), conds, rows in self.pairs():
            columns = conds[0].table.columns
            beyond = any(oracle.takes(one, columns, row) and not oracle.takes(other, columns, row) for row in rows)
            row = conds[0].row_beyond(conds[1])
            self.assertEqual(row is not None, beyond, conds)
            if beyond:
                self.assertIs(type(row), tuple)
                self.assertIn(row, conds[0].table)
                self.assertTrue(oracle.takes(one, columns, row), (conds, row))
                self.assertFalse(oracle.takes(other, columns, row), (conds, row))
            found.append(beyond)
        self.assertGreater(found.count(True), 50)
        self.assertGreater(found.count(False), 50)

    def test_shown(self):
        found = []
        for (one, _), conds, rows in self.pairs():
            columns = conds[0].table.columns
            values = {row: oracle.value(one, columns, row) for row in rows}
            for at, column in enumerate(columns):
                seen = {}
                for row in rows:
                    seen.setdefault((*row[:at], *row[at + 1:]), set()).add(values[row])
                shown = conds[0].shown(column)
                self.assertEqual(shown is not None, max(map(len, seen.values())) > 1, (conds[0], column))
                if shown is not None:
                    self.check_shown(shown, conds[0], column)
                found.append(shown is not None)
        self.assertGreater(found.count(True), 50)
        self.assertGreater(found.count(False), 50)

    def check_shown(self, shown, cond, column):
        self.assertIs(type(shown), tuple)
        one, other = shown
        for row in shown:
            self.assertIn(row, cond.table)
        differ = [name for name, left, right in zip(cond.table.columns, one, other) if left != right]
        self.assertEqual(differ, [column])
        self.assertEqual({cond(one), cond(other)}, {True, False})


class Equality(unittest.TestCase):
    def check(self, table, one, other, same):
        left, right = Cond(one, table), Cond(other, table)
        self.assertIs(left == right, same, (one, other))
        self.assertIs(right == left, same, (one, other))
        self.assertIs(left != right, not same, (one, other))

    def test_numbers_that_lie_close_together(self):
        self.check(ONE, "id > 3 & id < 5", "id = 4", True)
        self.check(ONE, "id > 3 & id < 6", "id = 4", False)
        self.check(ONE, "id > 3 & id < 6", "id = 4 | id = 5", True)
        self.check(ONE, "id > 3 & id < 4", "none", True)
        self.check(ONE, "id >= 3 & id <= 4", "id = 3 | id = 4", True)
        self.check(TWO, "id > 3 & id < 5 & owner > 3 & owner < 5", "id = 4 & id = owner", True)
        between = "id > 3 & id < 6 & owner > 3 & owner < 6"
        self.check(TWO, between + " & id != owner", "id = 4 & owner = 5 | id = 5 & owner = 4", True)
        self.check(TWO, between, "id = 4 & owner = 5 | id = 5 & owner = 4", False)

    def test_three_columns_between_two_numbers(self):
        for gap, same in ((2, True), (3, True), (4, False), (5, False)):
            inside = " & ".join([f"{name} > 3 & {name} < {3 + gap}" for name in THREE.columns])
            unequal = "id != owner & owner != state & id != state"
            self.check(THREE, f"{inside} & {unequal}", "none", same)

    def test_numbers_that_lie_far_apart(self):
        for near in (0, FAR, -FAR, 9 * FAR):
            self.check(ONE, f"id > {near} & id < {near + 2}", f"id = {near + 1}", True)
            self.check(ONE, f"id > {near} & id < {near + 3}", f"id = {near + 1}", False)
        self.check(ONE, f"id > -{FAR} & id < {FAR}", f"~(id <= -{FAR} | id >= {FAR})", True)
        self.check(TWO, f"id = {FAR} & owner = {FAR + 1}", f"id = {FAR} & owner = {FAR + 1} & id != owner", True)
        self.check(TWO, f"id < {FAR} & owner < {FAR}", f"id < {FAR} & owner < {FAR + 1}", False)

    def test_six_numbers(self):
        for numbers in ([0, 1, 2, 3, 4, 5], [0, 2, 4, 6, 8, 10], [-FAR, -3, 0, 1, 7, FAR], [0, 4, 8, 12, 16, 20]):
            for table in TABLES:
                first = table.columns[-1]
                low, high = min(numbers), max(numbers)
                every = " | ".join([f"{first} = {number}" for number in numbers])
                self.check(table, f"({every}) & {first} > {low} & {first} < {high}",
                           " | ".join([f"{first} = {number}" for number in numbers[1:-1]]), True)
                self.check(table, every, f"({every}) & {first} < {high}", False)

    def test_numbers_that_do_not_matter(self):
        self.check(TWO, "id = 1 & (owner = 7 | ~owner = 7)", "id = 1", True)
        self.check(TWO, "id = id", "every", True)
        self.check(TWO, "id < 3 & id > 9", "none", True)
        self.check(TWO, "owner != owner", "none", True)

    def test_blank_is_equal_to_blank_only(self):
        self.check(TWO, "blank", "~ blank & blank", True)
        self.check(TWO, "blank", "every", False)
        self.check(TWO, "blank", "id = id", False)
        self.check(TWO, "blank", "none", False)
        self.check(TWO, "every | blank", "every", True)
        self.check(TWO, "id = 1 & blank", "id = 1", True)

    def test_texts_do_not_matter(self):
        self.check(TWO, "id = owner", "owner=id", True)
        self.check(TWO, "~(id = 1 & owner = 2)", "id != 1 | owner != 2", True)
        self.check(TWO, "id = 1 & id = owner", "owner = 1 & id = 1", True)
        self.check(TWO, "id = 1", "owner = 1", False)

    def test_other_tables(self):
        texts = ("id = 1", "every", "none", "blank")
        tables = [*TABLES, Table(["owner", "id"]), Table(["id", "other"])]
        for text in texts:
            for one, other in itertools.product(tables, repeat=2):
                self.assertIs(Cond(text, one) == Cond(text, other), one is other)
        self.assertEqual(Cond("id = 1", TWO), Cond("id = 1", Table(("id", "owner"))))

    def test_equal_to_nothing_of_another_class(self):
        for cond in (Cond("id = 1", TWO), Cond.blank(TWO), Cond.every(TWO), Cond.none(TWO)):
            for thing in (None, True, False, 0, 1, "id = 1", str(cond), repr(cond), (), [], TWO, Cond):
                self.assertFalse(cond == thing)
                self.assertFalse(thing == cond)
                self.assertTrue(cond != thing)

    def test_again_after_a_change_in_place(self):
        one, other = Cond("id = 1", TWO), Cond("id = 1 | id = 2", TWO)
        self.assertNotEqual(one, other)
        one |= Cond("id = 2", TWO)
        self.assertEqual(one, other)
        other &= Cond("owner = 9", TWO)
        self.assertNotEqual(one, other)
        one &= other
        self.assertEqual(one, other)


class Beyond(unittest.TestCase):
    def test_the_only_rows(self):
        one = Cond("id > 3 & id < 5 & owner = id", TWO)
        self.assertEqual(one.row_beyond(Cond.none(TWO)), (4, 4))
        self.assertEqual(one.row_beyond(other=Cond("id != 4", TWO)), (4, 4))
        self.assertIsNone(one.row_beyond(Cond("owner = 4", TWO)))
        self.assertEqual(Cond(f"id = {FAR} & owner = -{FAR}", TWO).row_beyond(Cond.none(TWO)), (FAR, -FAR))

    def test_a_blank_one_takes_every_row(self):
        blank, every, none, some = [Cond(text, TWO) for text in ("blank", "every", "none", "id = 1")]
        for cond in (blank, every, none, some):
            self.assertIsNone(cond.row_beyond(blank))
            self.assertIsNone(cond.row_beyond(every))
            self.assertIsNone(cond.row_beyond(cond))
            self.assertIsNone(none.row_beyond(cond))
        for cond in (blank, every):
            self.assertIn(cond.row_beyond(none), TWO)
            self.assertNotEqual(cond.row_beyond(some)[0], 1)
        self.assertEqual(some.row_beyond(none)[0], 1)

    def test_other_tables(self):
        for other in (Cond.blank(ONE), Cond("id = 1", Table(["owner", "id"])), Cond.every(THREE)):
            for cond in (Cond("id = 1", TWO), Cond.blank(TWO), Cond.none(TWO)):
                with self.assertRaises(WrongTable):
                    cond.row_beyond(other)

    def test_again_after_a_change_in_place(self):
        one, other = Cond("id = 1 & owner = 2", TWO), Cond("id = 1", TWO)
        self.assertIsNone(one.row_beyond(other))
        one |= Cond("id = 7 & owner = 7", TWO)
        self.assertEqual(one.row_beyond(other), (7, 7))
        other |= Cond("id = owner", TWO)
        self.assertIsNone(one.row_beyond(other))

    def test_the_conditions_stay(self):
        one, other = Cond("id=1", TWO), Cond("owner=1", TWO)
        row = one.row_beyond(other)
        self.assertEqual(one.row_beyond(other), row)
        one.shown("id")
        self.assertEqual((str(one), str(other)), ("id = 1", "owner = 1"))


class Shown(unittest.TestCase):
    def test_each_column(self):
        cond = Cond("owner = 5 & state = state", THREE)
        self.assertIsNone(cond.shown("id"))
        self.assertIsNone(cond.shown(column="state"))
        one, other = cond.shown("owner")
        self.assertEqual((one[0], one[2]), (other[0], other[2]))
        self.assertEqual(sorted([one[1] == 5, other[1] == 5]), [False, True])

    def test_few_rows(self):
        # Only beside the rows (4, 4, x) the last column matters.
        cond = Cond("id > 3 & id < 5 & owner = 4 & state = id", THREE)
        one, other = cond.shown("state")
        self.assertEqual((one[:2], other[:2]), ((4, 4), (4, 4)))
        self.assertEqual((one[2] == 4) + (other[2] == 4), 1)
        one, other = cond.shown("id")
        self.assertEqual((one[1:], other[1:]), ((4, 4), (4, 4)))

    def test_a_third_integer_between_two_numbers(self):
        inside = "id > 3 & id < 6 & owner > 3 & owner < 6 & state > 3 & state < 6 & id != owner"
        self.assertIsNone(Cond(f"{inside} & state != id & state != owner", THREE).shown("state"))
        wider = inside.replace("6", "7")
        self.assertIsNotNone(Cond(f"{wider} & state != id & state != owner", THREE).shown("state"))

    def test_equal_columns(self):
        self.assertIsNotNone(Cond("id = owner", TWO).shown("id"))
        self.assertIsNotNone(Cond("id = owner", TWO).shown("owner"))
        self.assertIsNone(Cond("id = id", TWO).shown("id"))
        self.assertIsNone(Cond("id = owner | id != owner", TWO).shown("owner"))

    def test_the_same_on_all_rows(self):
        for table in TABLES:
            for text in ("blank", "every", "none", "id = 1 | id != 1", "id < 3 & id > 4", "id = 3 & blank & id = 4"):
                for column in table.columns:
                    self.assertIsNone(Cond(text, table).shown(column))

    def test_again_after_a_change_in_place(self):
        cond = Cond.blank(TWO)
        self.assertIsNone(cond.shown("id"))
        cond |= Cond("id = 3", TWO)
        self.assertIsNotNone(cond.shown("id"))
        self.assertIsNone(cond.shown("owner"))
        cond &= Cond("owner < 0", TWO)
        self.assertIsNotNone(cond.shown("owner"))
        cond |= Cond.every(TWO)
        self.assertIsNone(cond.shown("owner"))


if __name__ == "__main__":
    unittest.main()
