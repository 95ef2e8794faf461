"""Tables: which columns they have, what their rows are."""

import unittest

from emptyfilters.errors import BadTable
from emptyfilters.tables import Table

KEPT = (
    "def if else for in break skip refuse take guard blank every none any all pick given or and not true false self"
).split()

GOOD = (
    ["id"], ["a"], ["z"], ["abcdefgh"], ["zzzzzzzz"], ["id", "owner"], ["owner", "id"], ["a", "aa", "aaa"],
    ["x", "y", "z"], ["table", "row", "store"], ["iff", "nota", "selfs"], ["is", "while", "def" "s"],
)

NO_WORDS = (
    0, 1, -1, 10 ** 199, True, False, None, "", "abcdefghi", "a" * 300, "ID", "Id", "iD", "a1", "1", "a_b", "_a", "a b",
    " a", "a ", "a\n", "\na", "-", "a-b", "\u00e9", "\u00df", "\u0430", "a\u0301", "\uff41", "`", "{", "@", "a{", (),
    ("a",), ["a"], [], [["a", "b"]], ("a", ["b"]), *KEPT,
)


class Columns(unittest.TestCase):
    def test_columns_and_len(self):
        for names in GOOD:
            with self.subTest(names=names):
                table = Table(names)
                self.assertEqual(table.columns, tuple(names))
                self.assertIs(type(table.columns), tuple)
                self.assertEqual(len(table), len(names))

    def test_by_name_and_from_a_tuple(self):
        self.assertEqual(Table(columns=["id", "owner"]).columns, ("id", "owner"))
        self.assertEqual(Table(("id", "owner")).columns, ("id", "owner"))
        self.assertEqual(Table(columns=("id",)), Table(["id"]))

    def test_repr(self):
        self.assertEqual(repr(Table(["id"])), "Table(id)")
        self.assertEqual(repr(Table(["id", "owner"])), "Table(id, owner)")
        self.assertEqual(repr(Table(("c", "b", "a"))), "Table(c, b, a)")

    def test_the_list_is_copied(self):
        names = ["id", "owner"]
        table = Table(names)
        names[0] = "other"
        names.append("more")
        self.assertEqual(table.columns, ("id", "owner"))
        self.assertEqual(len(table), 2)
        self.assertEqual(repr(table), "Table(id, owner)")
        self.assertEqual(table, Table(["id", "owner"]))
        self.assertIn((1, 2), table)

    def test_the_list_stays(self):
        names = ["id", "owner"]
        Table(names)
        self.assertEqual(names, ["id", "owner"])


class Equality(unittest.TestCase):
    def test_equal_by_columns_in_their_order(self):
        for at, one in enumerate(GOOD):
            for to, other in enumerate(GOOD):
                self.assertEqual(Table(one) == Table(tuple(other)), at == to)
                self.assertEqual(Table(one) != Table(other), at != to)

    def test_fewer_columns(self):
        self.assertNotEqual(Table(["a"]), Table(["a", "b"]))
        self.assertNotEqual(Table(["a", "b"]), Table(["a"]))

    def test_equal_to_nothing_of_another_class(self):
        class Other:
            columns = ("id", "owner")

        table = Table(["id", "owner"])
        for thing in (("id", "owner"), ["id", "owner"], "Table(id, owner)", 2, True, None, Other(), Table):
            self.assertFalse(table == thing)
            self.assertFalse(thing == table)
            self.assertTrue(table != thing)


class Wrong(unittest.TestCase):
    def check(self, columns, at):
        before = list(columns)
        for given in (columns, tuple(columns)):
            with self.assertRaises(BadTable) as caught:
                Table(given)
            self.assertEqual(caught.exception.at, at)
            self.assertIs(type(caught.exception.at), int)
        self.assertEqual(columns, before)

    def test_a_wrong_number_of_columns(self):
        self.check([], -1)
        self.check(["a", "b", "c", "d"], -1)
        self.check(["a"] * 20, -1)

    def test_the_number_goes_before_the_entries(self):
        self.check([1, 2, 3, 4], -1)
        self.check(["a", "a", "", None], -1)
        self.check([None, "any", ["a"], (), "b"], -1)

    def test_an_entry_that_is_no_word(self):
        for thing in NO_WORDS:
            with self.subTest(thing=thing):
                self.check([thing], 0)
                self.check([thing, "b"], 0)
                self.check(["a", thing], 1)
                self.check(["x", "b", thing], 2)
                self.check(["x", thing, thing], 1)
                self.check([thing, thing, thing], 0)

    def test_there_are_all_kept_words(self):
        self.assertEqual(len(set(KEPT)), 23)

    def test_an_entry_that_repeats_an_earlier_one(self):
        self.check(["a", "a"], 1)
        self.check(["a", "b", "a"], 2)
        self.check(["a", "b", "b"], 2)
        self.check(["a", "a", "a"], 1)

    def test_the_first_of_several(self):
        self.check(["a", "a", "A"], 1)
        self.check(["a", "A", "a"], 1)
        self.check(["A", "a", "a"], 0)
        self.check(["a", ["a"], "a"], 1)


class Rows(unittest.TestCase):
    def test_rows(self):
        huge = 10 ** 199
        for row in ((0,), (-5,), (huge,), (-huge,)):
            self.assertIs(row in Table(["a"]), True)
        for row in ((0, 0), (1, -1), (huge, -huge), (huge + 1, 3)):
            self.assertIs(row in Table(["a", "b"]), True)
        for row in ((0, 0, 0), (1, 2, 3), (-huge, huge, 0)):
            self.assertIs(row in Table(["a", "b", "c"]), True)

    def test_too_short_and_too_long(self):
        for length in range(6):
            for many in (1, 2, 3):
                table = Table(["a", "b", "c"][:many])
                self.assertIs(tuple(range(length)) in table, length == many)

    def test_true_and_false_are_no_integers(self):
        table = Table(["a", "b"])
        for row in ((True, 5), (5, False), (True, False), (False, 0), (1, True)):
            self.assertNotIn(row, table)
        self.assertNotIn((True,), Table(["a"]))
        self.assertNotIn((False,), Table(["a"]))

    def test_other_values(self):
        for many in (1, 2, 3):
            table = Table(["a", "b", "c"][:many])
            for thing in (
                None, 0, 7, True, "", "a", "ab", "abc", [], [1], [1, 2], [1, 2, 3], (None,) * many, ("1",) * many,
                ((1,),) * many, ([1],) * many, (1, 2, "3")[3 - many:], (None, 2, 3)[:many], ["a", "b", "c"][:many],
                [(1,) * many], ((1,) * many,) * many, {1: 2}, tuple("abc"[:many]), (10 ** 199,) * 9,
            ):
                with self.subTest(many=many, thing=thing):
                    self.assertIs(thing in table, False)

    def test_what_is_looked_for_stays(self):
        thing = [1, [2, 3]]
        self.assertNotIn(thing, Table(["a", "b"]))
        self.assertEqual(thing, [1, [2, 3]])


if __name__ == "__main__":
    unittest.main()
