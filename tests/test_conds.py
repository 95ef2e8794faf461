"""Conditions: their values, operators, in place and not, truth, and which rows they take."""

import itertools
import random
import unittest

import oracle
from emptyfilters.conds import Cond
from emptyfilters.errors import WrongTable
from emptyfilters.tables import Table

TABLE = Table(["id", "owner"])
OTHER = Table(["owner", "id"])

# On this row `id = 1` is true and `id = 2` is false.
ROW = (1, 0)
TEXTS = {None: ("blank", "~ blank"), True: ("id = 1", "every"), False: ("id = 2", "none")}

# 8, as tables: the values of two conditions, and that of what the operator gives.
AND = {
    (None, None): None, (None, True): True, (None, False): False, (True, None): True, (False, None): False,
    (True, True): True, (True, False): False, (False, True): False, (False, False): False,
}
OR = {
    (None, None): None, (None, True): True, (None, False): False, (True, None): True, (False, None): False,
    (True, True): True, (True, False): True, (False, True): True, (False, False): False,
}
NOT = {None: None, True: False, False: True}


def conds_with(value):
    """Conditions with a value on ROW, made in different ways."""
    conds = [Cond(text, TABLE) for text in TEXTS[value]]
    conds.append({None: Cond.blank, True: Cond.every, False: Cond.none}[value](TABLE))
    conds.append(~~conds[0])
    return conds


class Values(unittest.TestCase):
    def check(self, cond, value):
        self.assertIs(type(cond), Cond)
        self.assertEqual(cond.table, TABLE)
        self.assertIs(cond(ROW), value)
        self.assertIs(bool(cond), value is not None)
        self.assertIs(cond.is_blank, value is None)
        self.assertIs(ROW in cond, value is not False)

    def test_texts_and_class_methods(self):
        for value in TEXTS:
            for cond in conds_with(value):
                self.check(cond, value)

    def test_class_methods_by_name(self):
        self.check(Cond.every(table=TABLE), True)
        self.check(Cond.none(table=TABLE), False)
        self.check(Cond.blank(table=TABLE), None)
        self.check(Cond.any_of(table=TABLE), None)
        self.check(Cond.all_of(table=TABLE), None)

    def test_two_conditions(self):
        for (left, right), value in AND.items():
            for one, other in itertools.product(conds_with(left), conds_with(right)):
                self.check(one & other, value)
        for (left, right), value in OR.items():
            for one, other in itertools.product(conds_with(left), conds_with(right)):
                self.check(one | other, value)

    def test_not(self):
        for value in TEXTS:
            for cond in conds_with(value):
                self.check(~cond, NOT[value])
                self.check(~~cond, value)
                self.check(cond, value)

    def test_none_on_either_side(self):
        for value in TEXTS:
            for cond in conds_with(value):
                for made in (cond & None, None & cond, cond | None, None | cond):
                    self.check(made, value)
                    self.assertEqual(made, cond)

    def test_in_place(self):
        for (left, right), value in AND.items():
            for one, other in itertools.product(conds_with(left), conds_with(right)):
                same = one
                one &= other
                self.assertIs(one, same)
                self.check(same, value)
                self.check(other, right)
        for (left, right), value in OR.items():
            for one, other in itertools.product(conds_with(left), conds_with(right)):
                same = one
                one |= other
                self.assertIs(one, same)
                self.check(same, value)
                self.check(other, right)

    def test_none_in_place(self):
        for value in TEXTS:
            for cond in conds_with(value):
                same = cond
                cond &= None
                cond |= None
                self.assertIs(cond, same)
                self.check(cond, value)

    def test_none_on_the_left_in_place_gives_a_new_one(self):
        for value in TEXTS:
            for cond in conds_with(value):
                made = None
                made &= cond
                more = None
                more |= cond
                for new in (made, more):
                    self.check(new, value)
                    self.assertIsNot(new, cond)

    def test_the_same_object_on_both_sides(self):
        for value in TEXTS:
            for cond in conds_with(value):
                self.check(cond & cond, value)
                self.check(cond | cond, value)
                same = cond
                cond &= cond
                self.check(cond, value)
                cond |= same
                self.check(cond, value)
                self.assertIs(cond, same)

    def test_new_objects(self):
        for value in TEXTS:
            for cond in conds_with(value):
                blank = Cond.blank(TABLE)
                for new in (
                    cond & None, None & cond, cond | None, None | cond, cond & blank, blank & cond, cond | blank,
                    blank | cond, cond & cond, cond | cond, ~~cond, Cond.any_of(TABLE, cond), Cond.all_of(TABLE, cond),
                ):
                    self.assertIsNot(new, cond)
                    self.assertIsNot(new, blank)
                    new &= Cond("id = 2", TABLE)
                    self.check(new, False)
                    self.check(cond, value)
                    self.check(blank, None)

    def test_whether_it_is_blank_does_not_depend_on_the_row(self):
        for text in ("blank", "id = 1", "id = 1 & blank", "blank | blank", "~(blank & blank)", "none | blank"):
            cond = Cond(text, TABLE)
            blank = {cond(row) is None for row in oracle.rows_near(TABLE.columns, [1])}
            self.assertEqual(blank, {cond.is_blank})
            self.assertIs(bool(cond), not cond.is_blank)

    def test_operators_as_they_happen(self):
        chance = random.Random(11)
        rows = oracle.rows_near(TABLE.columns, [0, 2])[::3]
        for _ in range(60):
            parts = [oracle.some_condition(chance, TABLE.columns, [0, 2], 1) for _ in range(5)]
            conds = [Cond(" ".join(oracle.tokens_of(part, chance)), TABLE) for part in parts]
            for _ in range(25):
                at, to = chance.randrange(5), chance.randrange(5)
                sign = chance.choice("~&|")
                if sign == "~":
                    parts[at], conds[at] = ("~", parts[to]), ~conds[to]
                elif chance.random() < 0.5:
                    parts[at] = (sign, parts[at], parts[to])
                    conds[at] = conds[at] & conds[to] if sign == "&" else conds[at] | conds[to]
                else:
                    parts[at] = (sign, parts[at], parts[to])
                    if sign == "&":
                        conds[at] &= conds[to]
                    else:
                        conds[at] |= conds[to]
                if len(str(parts)) > 3000:
                    break
            for part, cond in zip(parts, conds):
                for row in rows:
                    self.assertIs(cond(row), oracle.value(part, TABLE.columns, row))
                    self.assertIs(row in cond, oracle.takes(part, TABLE.columns, row))


class Defined(unittest.TestCase):
    def test_in_the_class_itself(self):
        self.assertEqual(Cond.__module__, "emptyfilters.conds")
        for name in (
            "__init__ every none blank any_of all_of __and__ __or__ __rand__ __ror__ __invert__ __iand__ __ior__ "
            "__bool__ is_blank __call__ __contains__ __eq__ row_beyond shown __str__ __repr__"
        ).split():
            self.assertIn(name, vars(Cond))
        self.assertIsInstance(vars(Cond)["is_blank"], property)


class Sharing(unittest.TestCase):
    def test_other_names_see_the_change(self):
        for change, value in ((Cond("id = 2", TABLE), True), (Cond("id = 1", TABLE), False)):
            cond = Cond("id = 1", TABLE)
            name, box = cond, [cond]
            if value:
                cond |= change
            else:
                cond &= ~change
            for held in (name, box[0]):
                self.assertIs(held, cond)
                self.assertIs(held((2, 0)), value)
                self.assertIs(held((1, 0)), value)

    def test_a_blank_one_that_is_filled(self):
        cond = Cond.blank(TABLE)
        name = cond
        self.assertFalse(name)
        cond |= Cond("id = 1", TABLE)
        self.assertTrue(name)
        self.assertIs(name.is_blank, False)
        self.assertNotIn((2, 0), name)

    def test_conditions_made_before_do_not_change(self):
        cond, other = Cond("id = 1", TABLE), Cond("owner = 0", TABLE)
        made = [
            cond & other, cond | other, ~cond, cond & None, None | cond, Cond.any_of(TABLE, cond), cond & cond,
            Cond.all_of(TABLE, other, cond), other & cond, ~(cond | None),
        ]
        rows = oracle.rows_near(TABLE.columns, [1])
        before = [[one(row) for row in rows] for one in made]
        texts = [str(one) for one in made]
        cond &= Cond.none(TABLE)
        other |= Cond("id = 5", TABLE)
        self.assertEqual([[one(row) for row in rows] for one in made], before)
        self.assertEqual([str(one) for one in made], texts)

    def test_what_was_put_in_may_change_afterwards(self):
        cond, part = Cond("id = 1", TABLE), Cond("id = 2", TABLE)
        cond |= part
        part |= Cond.every(TABLE)
        self.assertIs(cond((3, 0)), False)
        self.assertIs(cond((2, 0)), True)
        part &= cond
        cond &= part
        self.assertIs(cond((2, 0)), True)
        self.assertIs(part((3, 0)), False)

    def test_two_that_are_put_into_each_other(self):
        one, other = Cond("id = 1", TABLE), Cond("id = 2", TABLE)
        one |= other
        other |= one
        one &= other
        for row, value in (((1, 0), True), ((2, 0), True), ((3, 0), False)):
            self.assertIs(one(row), value)
            self.assertIs(other(row), value)

    def test_a_table_list_that_is_changed(self):
        columns = ["id", "owner"]
        cond = Cond("id = 1", Table(columns))
        columns[0] = "other"
        self.assertEqual(cond.table.columns, ("id", "owner"))
        self.assertEqual(cond, Cond("id = 1", TABLE))


class ManyOf(unittest.TestCase):
    def test_of_no_condition_and_of_none(self):
        for many in (Cond.any_of, Cond.all_of):
            for conds in ((), (None,), (None, None), (Cond.blank(TABLE),), (None, Cond.blank(TABLE), None)):
                cond = many(TABLE, *conds)
                self.assertIs(cond.is_blank, True)
                self.assertIsNone(cond(ROW))
                self.assertIn(ROW, cond)
                self.assertFalse(cond)
                self.assertEqual(cond.table, TABLE)

    def test_values(self):
        values = [None, True, False]
        for many, table in ((Cond.any_of, OR), (Cond.all_of, AND)):
            for three in itertools.product(values, repeat=3):
                expected = table[table[three[0], three[1]], three[2]]
                conds = [conds_with(value)[at] for at, value in enumerate(three)]
                self.assertIs(many(TABLE, *conds)(ROW), expected)
                self.assertIs(many(TABLE, *conds, None)(ROW), expected)
                self.assertIs(many(TABLE, None, *conds)(ROW), expected)
                given = [None if value is None else cond for value, cond in zip(three, conds)]
                self.assertIs(many(TABLE, *given)(ROW), expected)

    def test_many(self):
        conds = [Cond(f"id = {number}", TABLE) for number in range(300)]
        cond = Cond.any_of(TABLE, *conds)
        self.assertTrue(all((number, 0) in cond for number in range(300)))
        self.assertNotIn((300, 0), cond)
        self.assertNotIn((5, 0), Cond.all_of(TABLE, *conds))
        self.assertIn((5, 0), Cond.all_of(TABLE, *[~cond for cond in conds[6:]]))
        self.assertEqual([cond((7, 0)) for cond in conds], [number == 7 for number in range(300)])

    def test_the_same_one_several_times(self):
        cond = Cond("id = 1", TABLE)
        self.assertEqual(Cond.any_of(TABLE, cond, cond, cond), cond)
        self.assertEqual(Cond.all_of(TABLE, cond, cond), cond)


class Taking(unittest.TestCase):
    def test_the_truth_says_nothing_about_rows(self):
        self.assertTrue(Cond.none(TABLE))
        self.assertNotIn(ROW, Cond.none(TABLE))
        self.assertFalse(Cond.blank(TABLE))
        self.assertIn(ROW, Cond.blank(TABLE))
        self.assertTrue(Cond("id = 1 & id = 2", TABLE))

    def test_all_rows_of_any_size(self):
        huge = 10 ** 199
        cond = Cond("id < 0", TABLE)
        for row, value in (((-huge, huge), True), ((huge, -huge), False), ((-1, 0), True), ((0, 0), False)):
            self.assertIs(row in cond, value)
            self.assertIs(cond(row), value)
        self.assertIn((huge, huge), Cond("id = owner", TABLE))
        self.assertNotIn((huge, huge + 1), Cond("id = owner", TABLE))

    def test_what_is_no_row_is_not_taken(self):
        things = (
            None, 0, 1, True, "", "id", (), (1,), (1, 0, 0), [1, 0], [(1, 0)], ((1, 0),), (True, 0), (1, False),
            (1, None), (1, "0"), ("1", "0"), ((1,), 0), (1, [0]), [], [[1, 0]], {}, {"id": 1}, (True, False),
        )
        for cond in (Cond.every(TABLE), Cond.blank(TABLE), Cond.none(TABLE), Cond("id = 1", TABLE), ~Cond.none(TABLE)):
            for thing in things:
                self.assertIs(thing in cond, False, thing)

    def test_what_is_looked_for_stays(self):
        thing = [1, [2]]
        self.assertNotIn(thing, Cond.every(TABLE))
        self.assertEqual(thing, [1, [2]])

    def test_again_after_a_change_in_place(self):
        cond = Cond("id = 1", TABLE)
        self.assertIs(cond((2, 0)), False)
        cond |= Cond("id = 2", TABLE)
        self.assertIs(cond((2, 0)), True)
        self.assertIn((2, 0), cond)
        cond &= Cond("owner = 1", TABLE)
        self.assertIs(cond((2, 0)), False)
        self.assertNotIn((2, 0), cond)


class WrongTables(unittest.TestCase):
    def setUp(self):
        self.one = Cond("id = 1", TABLE)
        self.others = [
            Cond("id = 1", OTHER), Cond.blank(OTHER), Cond("id = 1", Table(["id"])),
            Cond.every(Table(["id", "owner", "more"])),
        ]

    def test_operators(self):
        for other in self.others:
            for one in (self.one, Cond.blank(TABLE)):
                with self.assertRaises(WrongTable):
                    one & other
                with self.assertRaises(WrongTable):
                    one | other
                with self.assertRaises(WrongTable):
                    other & one

    def test_in_place_and_nothing_changed(self):
        for other in self.others:
            for text in ("id=1", "blank"):
                cond = same = Cond(text, TABLE)
                before = str(cond), str(other)
                with self.assertRaises(WrongTable):
                    cond &= other
                with self.assertRaises(WrongTable):
                    cond |= other
                self.assertIs(cond, same)
                self.assertEqual((str(cond), str(other)), before)
                self.assertEqual(cond, Cond(text, TABLE))

    def test_many_of(self):
        for many in (Cond.any_of, Cond.all_of):
            for other in self.others:
                for conds in ((other,), (self.one, other), (other, self.one), (None, other), (self.one, None, other)):
                    with self.assertRaises(WrongTable):
                        many(TABLE, *conds)
            with self.assertRaises(WrongTable):
                many(OTHER, self.one)

    def test_equal_tables_are_one_table(self):
        again = Table(("id", "owner"))
        cond = Cond("id = 1", again)
        many = [Cond.any_of(again, self.one), Cond.all_of(TABLE, cond, self.one)]
        for made in (self.one & cond, self.one | cond, cond & self.one, *many):
            self.assertEqual(made, self.one)
        cond |= self.one
        self.assertEqual(cond, self.one)


if __name__ == "__main__":
    unittest.main()
