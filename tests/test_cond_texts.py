"""Texts of conditions: which there are, what they mean, where they are wrong, and how conditions are written."""

import random
import unittest

import oracle
from emptyfilters.conds import Cond
from emptyfilters.errors import BadCondition
from emptyfilters.tables import Table

TABLE = Table(["id", "owner"])
ONE = Table(["a"])
THREE = Table(["a", "b", "abcdefgh"])

LONG = "123456789012345678901234567890"

# The place is that of the first character of the first wrong token, or the length of the text.
WRONG = (
    # Nothing, or too little.
    ("", 0), (" ", 1), ("   ", 3), ("id", 2), ("id ", 3), ("id =", 4), ("id <= ", 6), ("id = 3 &", 8),
    ("id = 3 |  ", 10),
    ("~", 1), ("~ ~ ", 4), ("(", 1), ("( ( every )", 11), ("(every", 6), ("~(id = 3 | blank", 16), ("every & (", 9),
    # A wrong word.
    ("ido = 3", 0), ("i = 3", 0), ("owners = 3", 0), ("any", 0), ("all = 3", 0), ("not every", 0), ("true", 0),
    ("id = 3 & false", 9), ("id = every", 5), ("id = blank", 5), ("id = other", 5), ("id in 3", 3), ("id and owner", 3),
    ("every every", 6), ("every id", 6), ("id = 3 owner = 4", 7), ("id = owner id", 11), ("id owner", 3), ("blanks", 0),
    ("everyone", 0), ("self = 1", 0), ("pick ( every )", 0), ("given id", 0), ("def", 0), ("ID = 3", 0),
    ("iD = 3", 0), ("idD = 3", 2),
    # More than eight letters.
    ("abcdefghi = 3", 0), ("id = abcdefghi", 5), ("every | everyevery", 8), ("every abcdefghijkl", 6),
    # A wrong sign.
    ("= 3", 0), ("& every", 0), ("| every", 0), (")", 0), ("every )", 6), ("( every ) )", 10), ("( )", 2),
    ("every (", 6),
    ("id & 3", 3), ("id ( 3 )", 3), ("id = = 3", 5), ("id = (3)", 5), ("id = ~3", 5), ("every ~ none", 6),
    ("every & & none", 8), ("every | & none", 8), ("every || none", 7), ("every && none", 7), ("( every & )", 10),
    ("every , none", 6), ("every : none", 6), ("id , 3", 3), ("id : 3", 3), ("id = 3 < 4", 7), ("id = owner = 3", 11),
    ("id < owner", 5), ("id <= owner", 6), ("id > owner", 5), ("id >= owner", 6), ("id < id", 5), ("id < every", 5),
    # Signs that begin alike: the longer one counts.
    ("id == 3", 4), ("id =! 3", 4), ("id != = 3", 6), ("id !== 3", 5), ("id <> 3", 4), ("id >< 3", 4), ("id =< 3", 4),
    ("id => 3", 4), ("id << 3", 4), ("id <== 3", 5), ("every |= none", 6), ("every &= none", 6), ("id = 3|=id = 3", 6),
    ("id = 3&=3", 6), ("id |= 3", 3), ("id &= 3", 3), ("~= every", 1), ("id ~= 3", 3), ("every | = 3", 8),
    ("id ! = 3", 3),
    ("id ! 3", 3), ("id < = 3", 5), ("id > = 3", 5), ("!", 0), ("!every", 0), ("every !", 6), ("id = !3", 5),
    # Numbers.
    ("3", 0), ("3 = id", 0), ("-3 = id", 0), ("id 3", 3), ("id3 = 3", 2), ("id = 3id", 6), ("id = 3 4", 7),
    ("id = 34-5", 7),
    ("id = 3-owner", 6), ("id = 00", 5), ("id = 01", 5), ("id = 007", 5), ("id = -0", 5), ("id = -00", 5),
    ("id = -01", 5),
    ("id = --1", 5), ("id = - 1", 5), ("id = -", 5), ("id = 1-", 6), ("id = 1 -", 7), ("id = +1", 5), ("id = 1.0", 6),
    ("id = 1,0", 6), ("id = 1_0", 6), ("id = -owner", 5), ("id -1", 3), ("id - 1", 3), ("id=---1", 3),
    ("id = -0 & x", 5),
    ("id = 0x1", 6), ("id = 1e3", 6), ("id = " + LONG + "1", 5), ("id < -" + LONG + "1", 5), ("id = " + "9" * 31, 5),
    ("id = 0" + LONG, 5), ("id = " + "0" * 30, 5), ("id = " + "1" * 300, 5),
    # Characters that are allowed nowhere.
    ("#", 0), ("id = 3 # more", 7), ("id = $3", 5), ("id.x = 3", 2), ("id[0] = 3", 2), ("\"id\" = 3", 0),
    ("id = '3'", 5),
    ("id = 3;", 6), ("every\nnone", 5), ("every\n", 5), ("\nevery", 0), ("id =\n3", 4), ("id = 3 * 4", 7),
    ("id = 3/1", 6),
    ("{every}", 0), ("every ^ none", 6), ("every @", 6), ("ever_y", 0), ("id_x = 3", 2), ("_ = 3", 0), ("every ?", 6),
    ("`", 0), ("every \\", 6), ("X", 0), ("every X", 6), ("Every", 0), ("everyX", 5), ("~ (E)", 3),
    # The first of several.
    ("id = 00 & # & ido", 5), ("# & id = 00", 0), ("id < owner & #", 5), ("( id = 3 & # ", 11), ("every ) (", 6),
    ("id #", 3),
)

RIGHT = (
    "id = 3", "id=3", "id=-3", "id<-3", "id = owner", "owner!=id", "id = id", "id != id", "id<=0", "id>=0", "id>0",
    "~id=3", "~~id=3", "~ ~ ~ blank", "(every)", "((every))", "( id = 3 )", "id=3|id=4", "id=3&id=4",
    "id=3|owner=4&id=5",
    "(id=3|owner=4)&id=5", "~(id=3)|none", "blank|blank", "  every  ", "every ", " every", "~(  ~ ( none ) )",
    "id=" + LONG, "id = -" + LONG, "id < " + "9" * 30, "id > -1" + "0" * 29, "id = 10", "id = 100000000000000000000",
    "id=3&~owner=4|~id=5&blank", "every&every&every|none|none",
)


def place_in(text, table):
    """The place that the error tells, or None."""
    try:
        Cond(text, table)
    except BadCondition as error:
        return error.at
    return None


class Wrong(unittest.TestCase):
    def test_places(self):
        for text, at in WRONG:
            with self.subTest(text=text):
                self.assertEqual(place_in(text, TABLE), at)
                self.assertIs(type(place_in(text, TABLE)), int)

    def test_places_move_with_spaces_ahead(self):
        for text, at in WRONG:
            self.assertEqual(place_in("  " + text, TABLE), at + 2, text)
            if ")" not in text:
                self.assertEqual(place_in("~(" + text, TABLE), at + 2, text)

    def test_no_strings(self):
        for thing in (None, 0, 3, True, False, [], (), ["every"], ("every",), [["id", "=", 3]], {}, ((1, 2),)):
            with self.subTest(thing=thing), self.assertRaises(BadCondition) as caught:
                Cond(thing, TABLE)
            self.assertEqual(caught.exception.at, -1)

    def test_columns_of_the_table_only(self):
        self.assertEqual(place_in("a = 3", ONE), None)
        self.assertEqual(place_in("a = a", ONE), None)
        self.assertEqual(place_in("b = 3", ONE), 0)
        self.assertEqual(place_in("a = b", ONE), 4)
        self.assertEqual(place_in("id = 3", ONE), 0)
        self.assertEqual(place_in("a = b & abcdefgh = 3", THREE), None)
        self.assertEqual(place_in("a = b & abcdefg = 3", THREE), 8)
        self.assertEqual(place_in("a = b & abcdefghi = 3", THREE), 8)

    def test_all_characters(self):
        for number in [10, *range(32, 127)]:
            letter = chr(number)
            if letter == chr(37):
                continue
            # Behind a whole condition a letter, a digit or a sign is wrong; an operator and a bracket ask for more.
            self.assertEqual(place_in("every " + letter, TABLE), {" ": None, "&": 7, "|": 7}.get(letter, 6), letter)
            behind_sign = None if letter.isdigit() else 6 if letter == " " else 5
            self.assertEqual(place_in("id = " + letter, TABLE), behind_sign, letter)
            self.assertEqual(place_in(letter, TABLE), 1 if letter in " ~(" else 0, letter)
            self.assertEqual(place_in("id " + letter, TABLE), 4 if letter in " =<>" else 3, letter)

    def test_tokens_as_they_happen(self):
        chance = random.Random(3)
        tokens = [
            "id", "owner", "x", "every", "none", "blank", "any", "0", "3", "-3", "-0", "007", LONG, LONG + "0",
            "abcdefghi",
            "(", ")", ",", ":", "|", "&", "~", "=", "!=", "<", "<=", ">", ">=", "|=", "&=", "#", "!", "-",
        ]
        usual = ["id", "owner", "every", "blank", "3", "(", ")", "|", "&", "~", "=", "=", "!=", "<"]
        for _ in range(20000):
            found = [chance.choice(usual if chance.random() < 0.9 else tokens) for _ in range(chance.randrange(12))]
            text = " ".join(found)
            wrong = oracle.first_wrong(found, TABLE.columns)
            place = len(text) if wrong == len(found) else None if wrong is None else len(" ".join([*found[:wrong], ""]))
            self.assertEqual(place_in(text, TABLE), place, text)

    def test_right_texts_with_one_token_changed(self):
        chance = random.Random(4)
        others = ["id", "none", "3", "-4", "(", ")", "|", "&", "~", "=", "<", "#", "-0", "x"]
        for _ in range(4000):
            found = oracle.tokens_of(oracle.some_condition(chance, TABLE.columns, [0, -5, 77], 3), chance)
            spot = chance.randrange(len(found))
            found[spot:spot + chance.randrange(2)] = [chance.choice(others)]
            text = " ".join(found)
            wrong = oracle.first_wrong(found, TABLE.columns)
            place = len(text) if wrong == len(found) else None if wrong is None else len(" ".join([*found[:wrong], ""]))
            self.assertEqual(place_in(text, TABLE), place, text)

    def test_right_texts_that_end_too_early(self):
        chance = random.Random(5)
        for _ in range(300):
            found = oracle.tokens_of(oracle.some_condition(chance, TABLE.columns, [0, -5, 77], 3), chance)
            for length in range(len(found)):
                text = " ".join(found[:length]) + " " * chance.randrange(3)
                wrong = oracle.first_wrong(found[:length], TABLE.columns)
                self.assertIn(wrong, (None, length))
                self.assertEqual(place_in(text, TABLE), None if wrong is None else len(text), text)


class Right(unittest.TestCase):
    def check(self, text, condition, table, numbers):
        cond = Cond(text, table)
        for row in oracle.rows_near(table.columns, numbers):
            self.assertIs(cond(row), oracle.value(condition, table.columns, row), (text, row))

    def test_they_are_read(self):
        for text in RIGHT:
            self.assertIsNone(place_in(text, TABLE), text)

    def test_the_example(self):
        self.assertIs(Cond("~(id = owner | blank) & blank", TABLE)((3, 5)), True)
        cond = Cond("blank | ~blank", TABLE)
        self.assertIsNone(cond((3, 5)))
        self.assertIn((3, 5), cond)
        self.assertFalse(cond)

    def test_by_name(self):
        cond = Cond(table=TABLE, text="id = 3")
        self.assertIs(cond(row=(3, 0)), True)
        self.assertIs(cond(row=(0, 3)), False)

    def test_each_sign(self):
        for sign, compare in oracle.ALL_SIGNS.items():
            for number in (0, 4, -4, int(LONG), -int(LONG)):
                for text in (f"id {sign} {number}", f"id{sign}{number}", f"  id {sign}{number} "):
                    cond = Cond(text, TABLE)
                    for integer in (number - 1, number, number + 1, 0, 10 ** 199, -(10 ** 199)):
                        self.assertIs(cond((integer, 7)), compare(integer, number), (text, integer))

    def test_columns_on_both_sides(self):
        for row in ((3, 5), (5, 3), (4, 4)):
            self.assertIs(Cond("id = owner", TABLE)(row), row[0] == row[1])
            self.assertIs(Cond("owner=id", TABLE)(row), row[0] == row[1])
            self.assertIs(Cond("owner != id", TABLE)(row), row[0] != row[1])
            self.assertIs(Cond("id = id", TABLE)(row), True)
            self.assertIs(Cond("id != id", TABLE)(row), False)
        self.assertIs(Cond("abcdefgh = b", THREE)((1, 2, 2)), True)
        self.assertIs(Cond("a = abcdefgh", THREE)((1, 2, 2)), False)

    def test_and_holds_tighter_than_or_and_not_tighter_than_both(self):
        for row in oracle.rows_near(("id", "owner"), [1]):
            one, other = row[0] == 1, row[1] == 1
            self.assertIs(Cond("id = 1 | owner = 1 & id = 0", TABLE)(row), one or (other and row[0] == 0))
            self.assertIs(Cond("id = 0 & owner = 1 | id = 1", TABLE)(row), one or (other and row[0] == 0))
            self.assertIs(Cond("(id = 1 | owner = 1) & id = 0", TABLE)(row), other and row[0] == 0)
            self.assertIs(Cond("~id = 1 & owner = 1", TABLE)(row), not one and other)
            self.assertIs(Cond("~(id = 1 & owner = 1)", TABLE)(row), not (one and other))
            self.assertIs(Cond("~id = 1 | owner = 1", TABLE)(row), not one or other)
            self.assertIs(Cond("~~id = 1 | none", TABLE)(row), one)

    def test_texts_as_they_happen(self):
        chance = random.Random(1)
        for table, numbers in ((ONE, [3, -8]), (TABLE, [0, 2]), (TABLE, [7]), (THREE, [1])):
            for _ in range(150):
                condition = oracle.some_condition(chance, table.columns, numbers, 4)
                text = oracle.text_of(oracle.tokens_of(condition, chance), chance)
                self.check(text, condition, table, numbers)

    def test_ten_brackets_and_a_long_text(self):
        self.check("(" * 10 + "id = 3" + ")" * 10, ("test", "id", "=", 3), TABLE, [3])
        self.check("~" * 10 + "id = 3", ("test", "id", "=", 3), TABLE, [3])
        self.check("~(" * 5 + "id = 3" + ")" * 5, ("~", ("test", "id", "=", 3)), TABLE, [3])
        text = " | ".join([f"id = {number}" for number in range(330)])
        self.assertLessEqual(len(text), 4000)
        cond = Cond(text, TABLE)
        self.assertIs(cond((329, 0)), True)
        self.assertIs(cond((330, 0)), False)


class Written(unittest.TestCase):
    def check_read_again(self, cond, rows):
        again = Cond(str(cond), cond.table)
        for row in rows:
            self.assertIs(again(row), cond(row), str(cond))
        self.assertEqual(repr(cond), f"Cond({cond})")

    def test_tokens_with_one_space(self):
        self.assertEqual(str(Cond("~(id=3|blank)&blank", TABLE)), "~ ( id = 3 | blank ) & blank")
        self.assertEqual(str(Cond("  ~  every ", TABLE)), "~ every")
        self.assertEqual(str(Cond("id<=-7", TABLE)), "id <= -7")
        self.assertEqual(str(Cond("((id!=owner))", TABLE)), "( ( id != owner ) )")
        self.assertEqual(repr(Cond("((id!=owner))", TABLE)), "Cond(( ( id != owner ) ))")
        self.assertEqual(repr(Cond(" every", TABLE)), "Cond(every)")

    def test_texts_as_they_happen(self):
        chance = random.Random(2)
        for _ in range(500):
            tokens = oracle.tokens_of(oracle.some_condition(chance, TABLE.columns, [0, -5, 10 ** 29], 4), chance)
            cond = Cond(oracle.text_of(tokens, chance), TABLE)
            self.assertEqual(str(cond), " ".join(tokens))
            self.assertEqual(repr(cond), "Cond(" + " ".join(tokens) + ")")
            self.assertEqual(str(Cond(str(cond), TABLE)), str(cond))

    def test_none_in_place_changes_no_text(self):
        for text in ("( id=3 )", "blank", "~ ~ none", "blank & id = 3"):
            cond = Cond(text, TABLE)
            before = str(cond)
            cond |= None
            cond &= None
            self.assertEqual(str(cond), before)

    def test_a_condition_in_place_changes_the_text(self):
        rows = oracle.rows_near(TABLE.columns, [3, 4])
        for text in ("(id=3)", "blank", "none"):
            cond = Cond(text, TABLE)
            cond |= Cond("owner = 4", TABLE)
            self.check_read_again(cond, rows)
            cond &= cond
            self.check_read_again(cond, rows)
            cond &= Cond("blank", TABLE)
            cond |= None
            self.check_read_again(cond, rows)

    def test_conditions_that_are_no_texts(self):
        table = TABLE
        one, other = Cond("id = 3 | owner = 4", table), Cond("id < 4 & ~ owner = id", table)
        rows = oracle.rows_near(table.columns, [3, 4])
        for cond in (
            one & other, one | other, other & one, ~one, ~other, ~(one & other), ~~one, ~one & ~other,
            (~one | other) & one, one & None, None | one, Cond.every(table), Cond.none(table), Cond.blank(table),
            ~Cond.every(table), ~Cond.blank(table), Cond.any_of(table), Cond.all_of(table, one, None, other),
            Cond.any_of(table, one, ~other), Cond.blank(table) & one, one | Cond.blank(table),
            one & (other | one) & ~(one | other),
        ):
            self.check_read_again(cond, rows)

    def test_brackets_keep_the_value(self):
        chance = random.Random(6)
        rows = oracle.rows_near(TABLE.columns, [0, 2])
        for _ in range(100):
            conds = [Cond.blank(TABLE), Cond.none(TABLE), Cond.every(TABLE)]
            for _ in range(4):
                test = oracle.some_test(chance, TABLE.columns, [0, 2])
                conds.append(Cond(" ".join(oracle.tokens_of(test, chance)), TABLE))
            for _ in range(20):
                one, other = chance.sample(conds, 2)
                conds.append(chance.choice([one & other, one | other, ~one]))
            for cond in conds[-3:]:
                if len(str(cond).split()) < 300:
                    self.check_read_again(cond, rows)

    def test_a_hundred_tests_nested_deeply_with_many_long_numbers(self):
        table = Table(["aaaaaaaa", "bbbbbbbb", "cccccccc"])
        numbers = [-(10 ** 29) - step for step in range(50)]
        cond = Cond.none(table)
        for number in numbers:
            cond = ~(Cond(f"aaaaaaaa != {number}", table) & cond)
        rows = [(number + step, 0, 0) for number in numbers[::7] for step in (-1, 0, 1)]
        self.check_read_again(cond, rows)
        cond = Cond.all_of(table, *[Cond(f"cccccccc >= {number}", table) for number in numbers * 2])
        self.assertGreater(len(str(cond)), 4000)
        self.check_read_again(cond, [(0, 0, number) for number in numbers])


if __name__ == "__main__":
    unittest.main()
