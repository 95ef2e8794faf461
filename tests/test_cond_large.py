"""Conditions that are made by thousands of operators."""

import random
import unittest

from emptyfilters.conds import Cond
from emptyfilters.deeds import Delete, Update
from emptyfilters.stores import Store
from emptyfilters.tables import Table

TABLE = Table(["id", "owner"])
THREE = Table(["a", "b", "c"])
MANY = 2400


def chain(text, operator, many=MANY):
    """A condition that is nested as deep as it has tests."""
    part = Cond(text, TABLE)
    cond = part & None
    for _ in range(many):
        cond = operator(cond, part)
    return cond


class Deep(unittest.TestCase):
    def check(self, cond, same, other):
        """It has the same values as one condition, and others than another one."""
        for row in ((1, 0), (2, 0), (1, 1), (0, 1), (10 ** 199, -(10 ** 199))):
            self.assertIs(cond(row), same(row))
            self.assertIs(row in cond, row in same)
        self.assertIs(bool(cond), bool(same))
        self.assertIs(cond.is_blank, same.is_blank)
        self.assertTrue(cond == same)
        self.assertFalse(cond == other)
        self.assertIsNone(cond.row_beyond(same))
        self.assertIsNone(same.row_beyond(cond))
        self.assertEqual(cond.row_beyond(other) is None, same.row_beyond(other) is None)
        for column in TABLE.columns:
            self.assertEqual(cond.shown(column) is None, same.shown(column) is None)
        self.assertEqual(cond & same, same)
        self.assertEqual(same | cond, same)
        self.assertEqual(~~cond, same)

    def test_chains(self):
        part, none, every = Cond("id = 1", TABLE), Cond.none(TABLE), Cond.every(TABLE)
        for cond in (
            chain("id = 1", lambda one, other: one & other), chain("id = 1", lambda one, other: one | other),
            chain("id = 1", lambda one, other: other & one), chain("id = 1", lambda one, other: other | one),
            chain("id = 1", lambda one, other: ~~one, 2498), chain("id = 1", lambda one, other: (one | None) & other),
            chain("id = 1", lambda one, other: ~(~one & ~other), 1200), chain("id = 1", lambda one, other: None & one),
            chain("id = 1", lambda one, other: ~(other | ~(one & other)) | other, 900),
        ):
            self.check(cond, part, none)
        self.check(chain("id = 1", lambda one, other: ~one | other, 1801), every, part)

    def test_blank_chains(self):
        blank, every = Cond.blank(TABLE), Cond.every(TABLE)
        for operator in (lambda one, other: one & other, lambda one, other: ~one, lambda one, other: other | ~one):
            cond = chain("blank", operator, 1500)
            self.assertIsNone(cond((1, 1)))
            self.assertFalse(cond)
            self.assertIn((1, 1), cond)
            self.assertEqual(cond, blank)
            self.assertNotEqual(cond, every)
            self.assertIsNone(every.row_beyond(cond))
            self.assertIsNone(cond.shown("id"))
        self.check(chain("id = 1", lambda one, other: one & Cond.blank(TABLE)), Cond("id = 1", TABLE), every)

    def test_not_thousands_of_times(self):
        for many in (4998, 4999):
            cond = Cond("id = 1", TABLE)
            for _ in range(many):
                cond = ~cond
            self.assertIs(cond((1, 0)), many % 2 == 0)
            self.assertEqual(cond, Cond("id = 1" if many % 2 == 0 else "id != 1", TABLE))
            self.assertIs((2, 0) in cond, many % 2 == 1)

    def test_in_place(self):
        cond = Cond.blank(TABLE)
        name = cond
        for number in range(MANY):
            cond |= Cond(f"id = {number}", TABLE)
        for number in range(0, MANY, 2):
            cond &= Cond(f"id != {number}", TABLE)
        for row, value in (((1, 0), True), ((0, 0), False), ((MANY - 1, 0), True), ((MANY + 1, 0), False)):
            self.assertIs(name(row), value)
            self.assertIs(row in name, value)
        cond = Cond("id = 1", TABLE)
        for _ in range(12):
            cond |= cond
        self.assertEqual(cond, Cond("id = 1", TABLE))

    def test_many_of(self):
        conds = [Cond(f"id = {number}", TABLE) for number in range(4999)]
        cond = Cond.any_of(TABLE, *conds)
        self.assertIn((4998, 3), cond)
        self.assertNotIn((4999, 3), cond)
        self.assertNotIn((3, 3), Cond.all_of(TABLE, *conds))
        self.assertIn((5000, 3), ~cond)

    def test_three_columns_and_six_numbers(self):
        chance = random.Random(31)
        numbers = [0, 1, 3, 6, 10, 10 ** 29]
        texts = ["a = b", "b != c", "a = c"]
        for column in THREE.columns:
            texts += [f"{column} {sign} {number}" for sign in ("=", "<", ">") for number in numbers]
        parts = [Cond(text, THREE) for text in texts]
        conds = [Cond.every(THREE)]
        for at in range(2300):
            part = chance.choice(parts)
            conds.append(conds[-1] & part if chance.random() < 0.3 else ~conds[-1] if at % 2 else conds[-1] | part)
        one, other = conds[-1], conds[-1] & ~parts[-1]
        self.assertEqual(one, ~~one)
        self.assertEqual(one & other, other)
        self.assertIsNone(other.row_beyond(one))
        row = one.row_beyond(other)
        self.assertEqual(row is None, one == other)
        if row is not None:
            self.assertEqual((one(row), other(row)), (True, False))
        for cond in (one, other):
            for column in THREE.columns:
                shown = cond.shown(column)
                if shown is not None:
                    self.assertNotEqual(cond(shown[0]), cond(shown[1]))

    def test_deeds(self):
        cond = Cond.any_of(TABLE, *[Cond(f"id = {number} & owner = {number}", TABLE) for number in range(MANY)])
        store = Store(TABLE, [(3, 3), (3, 4), (MANY - 1, MANY - 1), (MANY, MANY), (3, 3)])
        self.assertEqual(store.do(Update(cond, {"owner": 7})), [(3, 3), (MANY - 1, MANY - 1), (3, 3)])
        self.assertEqual(store.listed(), [(3, 7), (3, 4), (MANY - 1, 7), (MANY, MANY), (3, 7)])
        deed = Delete(~cond)
        cond &= Cond.none(TABLE)
        self.assertEqual(len(store.do(deed)), 5)
        self.assertEqual(store.listed(), [])

    def test_made_of_conditions_that_are_gone(self):
        for _ in range(5):
            cond = chain("id = 1", lambda one, other: ~(one & other), 2000)
            del cond
        self.assertEqual(chain("id = 1", lambda one, other: one | other), Cond("id = 1", TABLE))


if __name__ == "__main__":
    unittest.main()
