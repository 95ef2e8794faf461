"""Limits: what they allow, and where a text goes wrong (23 to 25)."""

import random
import unittest

import chances
from checker import first_wrong, tokens_of
from emptyfilters.errors import BadInputs, BadLimit
from emptyfilters.limits import Limit
from made import BARE, LARGE, LISTS, ONE, OPTIONS, SHAPES, SMALL, WIDE, error_of, form_of, limited, made

# A text with the wrong token behind the sign $, or with a $ at the end, if it ends too early.
WRONG = (
    "$", "   $", "true $true", "true and $", "true or $or", "not $", "( true $", "true $)", "( $)", "$~ true",
    "true $& true", "true $| true", "$blank", "$every", "$none", "id = 3 $not true",
    "given $", "given $id", "given $xs", "given $e", "given $3", "given $given", "given $( me )", "given $true",
    "me $and true", "id = $", "id $3", "id < $owner", "id < $me", "me < $id", "me = $you", "me = $me",
    "id = $xs", "id = $e", "$e = id", "$xs", "$c", "$3 = id", "id = $= 3", "id = $03", "id = $-0",
    "id = $-", "id = $1234567890123456789012345678901", "id in $", "id in $me", "id in $ids", "id in $owner",
    "me $in xs", "id $( 3", "any $", "any $xs in xs : true", "any $me in xs : true", "any $id in xs : true",
    "any $for in xs : true", "any $3 in xs : true", "any $abcdefghi in xs : true", "any e $xs", "any e in $me : true",
    "any e in $: true", "any e in xs $true", "any e in xs : $", "any e in xs : $any f in ys : true",
    "any e in xs : $all f in ys : true", "any e in xs : not ( id = e or $any f in ys : true )",
    "any e in xs : id $in ys", "all e in xs : ( true or owner $in ys )", "any e in xs : given $e", "any e in xs : e $and true",
    "any e in xs : id = e and owner = $e", "any e in xs : id = e or $e = owner", "( any e in xs : true ) and $e = id",
    "any e in xs : e = $me", "any e in xs : me = $e", "any e in xs : e $in xs", "any e in xs : id = $f",
    "any e in xs : e < $id", "$Id = 3", "id = 3 $# true", "id = 3\n", "true $\nor true", "true $;", "true or $Or",
    "id $! = 3", "id < $> 3", "$abcdefghi = 3", "$pick ( me , true , true )", "true $, true",
    "id = 3 $: true", "any e in xs : ( true $", "any e in xs : ( true and $)",
    "not not $", "true and not ( false or $", "id = 3 $4", "id $and true", "$) true", "id = $( 3 )", "all $all",
)


def split_wrong(text):
    """The text without the sign, and the position that it stands for."""
    at = text.find("$")
    if at < 0:
        return text, text.find("\n")
    return text.replace("$", "", 1), at


class Positions(unittest.TestCase):
    def test_wrong_tokens(self):
        for marked in WRONG:
            text, at = split_wrong(marked)
            self.assertEqual(error_of(limited, text), ("BadLimit", at), text)

    def test_ends_too_early(self):
        for text in ("", "  ", "true and", "not  ", "given", "given ", "id", "id  ", "id =", "id < ", "id in", "any", "all  ",
                     "any e", "any e in", "any e in xs", "any e in xs :", "( true", "( ( true ) ", "me", "any e in xs : e",
                     "any e in xs : e =", "any e in xs : not", "true or ( id = 3 and"):
            self.assertEqual(error_of(limited, text), ("BadLimit", len(text)), text)

    def test_positions_count_from_the_text(self):
        for text, at in (("id=3and id in zs", 14), ("  me=id or you=me", 15), ("not(true))", 9), ("id<=-3or", 8),
                         ("any e in xs:any f in ys:true", 12), ("id>owner", 3), ("truefalse or true", 0), ("id=-", 3),
                         ("id = 3true falsey", 6), ("id=--3", 3), ("given me given", 9), ("given  id", 7)):
            self.assertEqual(error_of(limited, text), ("BadLimit", at), text)

    def test_no_string(self):
        for thing in (None, 3, True, b"true", ["true"], ("true",), []):
            self.assertEqual(error_of(Limit, thing, form_of(LARGE)), ("BadLimit", -1))

    def test_forms_without_lists_or_options(self):
        for shape, text, at in (
            (BARE, "any e in xs : true", 9), (BARE, "id in xs", 6), (BARE, "given me", 6), (BARE, "all e in", 8),
            (BARE, "id in", 5), (BARE, "given", 5), (BARE, "any", 3), (BARE, "any id in xs", 4), (BARE, "me = id", 0),
            (BARE, "id = me", 5), (BARE, "given id", 6), (OPTIONS, "id in me", 6), (OPTIONS, "all e in xs", 9),
            (OPTIONS, "all me in", 4), (LISTS, "given xs", 6), (LISTS, "any e in xs : given e", 20),
            (LISTS, "any e in xs : e in xs", 16), (LISTS, "id = owner", 5), (BARE, "any e in owner : true", 9),
            (BARE, "any e xs", 6), (BARE, "id < in", 5), (BARE, "any me in 3", 10),
        ):
            self.assertEqual(error_of(limited, text, shape), ("BadLimit", at), text)
        for shape, text in ((LISTS, "any me in xs : id = me"), (OPTIONS, "given me and not id = you"), (WIDE, "a = b or z != z"),
                            (ONE, "id in xs and any owner in xs : owner != id")):
            self.assertIsNone(error_of(limited, text, shape))

    def test_as_it_happens(self):
        words = ("id owner me you xs ys e f if in any all given or and not true false ( ) , : | & = != < >= |= 0 3 -4 00 "
                 "abcdefghi $ self").split()
        chance = random.Random(25)
        found = {"right": 0, "early": 0, "wrong": 0}
        for _ in range(5000):
            shape = chance.choice(SHAPES)
            tokens = chances.some_limit(chance, shape, [0, 3]).text.split()
            for _ in range(chance.choice([0, 1, 1, 2])):
                at = chance.randrange(len(tokens) + 1)
                kind = chance.random()
                if kind < 0.4:
                    tokens[at:at + 1] = [chance.choice(words)]
                elif kind < 0.6:
                    del tokens[at:at + 1]
                elif kind < 0.8:
                    tokens.insert(at, chance.choice(words))
                else:
                    del tokens[at:]
            text, places = "", []
            for token in tokens:
                text += " " * chance.choice([1, 1, 3])
                places.append(len(text))
                text += token
            text += " " * chance.choice([0, 0, 2])
            wrong = first_wrong(tokens, shape)
            wanted = None if wrong is None else ("BadLimit", [*places, len(text)][wrong])
            self.assertEqual(error_of(limited, text, shape), wanted, text)
            found["right" if wrong is None else "early" if wrong == len(tokens) else "wrong"] += 1
        self.assertTrue(all(many > 400 for many in found.values()), found)


class Allows(unittest.TestCase):
    def check(self, text, rows):
        """Each row, with inputs, is allowed or not."""
        limit = limited(text)
        for row, inputs, allowed in rows:
            self.assertIs(limit(row, inputs), allowed, (text, row, inputs))

    def test_words_and_tests(self):
        self.check("true", [((3, 5), {}, True)])
        self.check("false", [((3, 5), {}, False)])
        self.check("id = 3", [((3, 5), {}, True), ((4, 3), {}, False)])
        self.check("id < 4 and owner >= 5", [((3, 5), {}, True), ((3, 4), {}, False)])
        self.check("id != owner", [((3, 5), {}, True), ((3, 3), {}, False)])
        self.check("id > 3 or id <= -3", [((3, 0), {}, False), ((4, 0), {}, True), ((-3, 0), {}, True)])

    def test_missing_options(self):
        for text in ("id = me", "me = id", "id != me", "me != id", "me = 3", "me != 3", "me < 3", "me >= 3"):
            self.check(text, [((3, 5), {}, False), ((3, 5), {"me": None}, False)])
            self.check(f"not {text}", [((3, 5), {}, True)])
        self.check("id = me", [((3, 5), {"me": 3}, True), ((3, 5), {"me": 5}, False)])
        self.check("me != id", [((3, 5), {"me": 3}, False), ((3, 5), {"me": 5}, True)])
        self.check("me >= 3", [((0, 0), {"me": 3}, True), ((0, 0), {"me": 2}, False)])
        self.check("given me", [((0, 0), {}, False), ((0, 0), {"me": 0}, True), ((0, 0), {"you": 1}, False)])
        self.check("owner = me or not given me", [((0, 5), {}, True), ((0, 5), {"me": 5}, True), ((0, 5), {"me": 6}, False)])

    def test_lists(self):
        self.check("id in xs", [((3, 5), {}, False), ((3, 5), {"xs": [4, 3]}, True), ((3, 5), {"ys": [3]}, False)])
        self.check("any e in xs : id = e", [((3, 5), {}, False), ((3, 5), {"xs": [4, 3]}, True), ((3, 5), {"xs": (4,)}, False)])
        self.check("all e in xs : id = e", [((3, 5), {}, True), ((3, 5), {"xs": [3, 3]}, True), ((3, 5), {"xs": [3, 4]}, False)])
        self.check("not any e in xs : true", [((3, 5), {}, True), ((3, 5), {"xs": [0]}, False)])
        self.check("all e in xs : false", [((3, 5), {}, True), ((3, 5), {"xs": [0]}, False)])
        self.check("any e in xs : ( e > 3 and owner != e )",
                   [((3, 5), {"xs": [5, 3]}, False), ((3, 5), {"xs": [5, 3, 4]}, True)])
        self.check("any e in xs : not id = me", [((3, 5), {"xs": [1]}, True), ((3, 5), {"xs": [1], "me": 3}, False)])
        self.check("any e in xs : id = e and any e in ys : owner = e",
                   [((3, 5), {"xs": [3], "ys": [5]}, True), ((3, 5), {"xs": [3], "ys": [3]}, False)])

    def test_how_it_holds_together(self):
        self.check("true or false and false", [((0, 0), {}, True)])
        self.check("( true or false ) and false", [((0, 0), {}, False)])
        self.check("not false and false", [((0, 0), {}, False)])
        self.check("not ( false and false )", [((0, 0), {}, True)])
        self.check("not true or true", [((0, 0), {}, True)])
        self.check("any e in xs : true and false", [((0, 0), {"xs": [1]}, False)])
        self.check("any e in xs : false or true", [((0, 0), {}, True)])
        self.check("all e in xs : not ( e = 3 or e = 4 ) and true", [((0, 0), {"xs": [5]}, True), ((0, 0), {"xs": [4]}, False)])

    def test_long_lists(self):
        many = {"xs": list(range(2000))}
        self.check("id in xs", [((1999, 0), many, True), ((2000, 0), many, False)])
        self.check("any e in xs : id = e", [((1999, 0), many, True), ((2000, 0), many, False)])
        self.check("all e in xs : id != e", [((1999, 0), many, False), ((2000, 0), many, True)])

    def test_large(self):
        tests = " or ".join(["id = 3 and not owner = 5"] * 30)
        self.check(tests, [((3, 4), {}, True), ((3, 5), {}, False)])
        self.check("not ( " * 14 + "id = 3" + " )" * 14, [((3, 4), {}, True), ((4, 4), {}, False)])
        self.check(f"id = {'9' * 30}", [((10 ** 30 - 1, 0), {}, True), ((10 ** 199, 0), {}, False)])

    def test_bad_inputs(self):
        limit = limited("false")
        for inputs, name in (({"zs": 3}, "zs"), ({"me": True}, "me"), ({"xs": None}, "xs"), ({"ys": [3, "a"]}, "ys"),
                             ({"you": [], "id": 4}, "id")):
            self.assertEqual(error_of(limit, (3, 3), inputs), ("BadInputs", name))
        with self.assertRaises(BadInputs):
            limit(row=(3, 3), inputs={"xs": 4})

    def test_as_it_happens(self):
        chance = random.Random(24)
        integers = [0, 1, 2, 3, 5, -4, 7]
        found = []
        for _ in range(2000):
            shape = chance.choice(SHAPES)
            plain = chances.some_limit(chance, shape, chance.choice([[0], [0, 3], [2, 5]]), 3)
            limit = made(plain)
            for _ in range(5):
                row = tuple(chance.choice(integers) for _ in shape.columns)
                options = tuple(chance.choice([None, *integers]) for _ in shape.options)
                lists = tuple(tuple(chance.choice(integers) for _ in range(chance.choice([0, 1, 2]))) for _ in shape.lists)
                found.append(plain.allows(row, options, lists))
                self.assertIs(limit(row, limit.form.inputs(options, lists)), found[-1], (plain.text, row, options, lists))
        self.assertGreater(found.count(True), 2000)
        self.assertGreater(found.count(False), 2000)


class Objects(unittest.TestCase):
    def test_str_and_equality(self):
        limit = limited("  id=me  or not(given you)and any e in xs:id!=e ")
        self.assertEqual(str(limit), "id = me or not ( given you ) and any e in xs : id != e")
        self.assertEqual(limit.form, form_of(LARGE))
        self.assertTrue(limit == limited(str(limit)))
        self.assertFalse(limit != limited(str(limit)))
        for other in (limited("id = me"), limited("true", SMALL), str(limit), None, limited("( " + str(limit) + " )")):
            self.assertFalse(limit == other)
            self.assertTrue(limit != other)
        self.assertNotEqual(limited("true", SMALL), limited("true", LARGE))
        self.assertEqual(Limit(form=form_of(SMALL), text="true"), limited("true", SMALL))

    def test_arguments_stay(self):
        inputs = {"xs": [3, 4], "me": 3}
        self.assertTrue(limited("id in xs and id = me")((3, 0), inputs))
        self.assertEqual(inputs, {"xs": [3, 4], "me": 3})

    def test_error(self):
        with self.assertRaises(BadLimit) as caught:
            limited("id = ")
        self.assertEqual(caught.exception.at, 5)
        self.assertEqual(tokens_of("id<=-3|=x"), ["id", "<=", "-3", "|=", "x"])


if __name__ == "__main__":
    unittest.main()
