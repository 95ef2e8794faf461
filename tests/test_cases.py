"""Cases: numbers, pairs that are alike, one pair of each case (26, 27)."""

import itertools
import random
import unittest

import chances
from brute import Brute, near
from emptyfilters.cases import Cases
from emptyfilters.errors import TooMany, WrongForm
from plain import Plain
from made import BARE, LARGE, LISTS, ONE, OPTIONS, SHAPES, SMALL, WIDE, built, error_of, form_of, limited, made

EIGHT = "id <= -5 or id < 0 or id = 0 or id < 3 or id = 3 or id < 9 or id = 9"
NINE = f"{EIGHT} or id < -5"
FIVE = "owner < 0 or owner = 0 or owner < 3 or owner = 3"
FORTY_ONE = ("c |= ~ owner <= 0\nfor f in ys :\n  c |= pick ( f = 0 , blank , you != owner )\n  skip\n"
             "  c = f = 3 | id = owner\ntake all e in ys : ( e = id | you = 3 )")


def given(options):
    return sum(value is not None for value in options)


class Numbers(unittest.TestCase):
    def test_numbers(self):
        for texts, numbers in (
            ([built("take every")], (0,)), ([limited("true")], (0,)), ([built("take id = 3")], (0, 3)),
            ([built("take id = 0 | id < -4")], (-4, 0)), ([built("take id = 3"), limited("id = 4 or me = -3")], (-3, 0, 3, 4)),
            ([built("def f ( p ) : id = 7 | p = 8\ntake every")], (0, 7, 8)),
            ([built("def f ( p ) : pick ( p < 9 , every , none )\nif me = 2 :\n  refuse\ntake every")], (0, 2, 9)),
            ([built("refuse\ntake pick ( me > 5 , id = 6 , every )")], (0, 5, 6)),
            ([limited("any e in xs : e = 3"), limited("id = 3"), built("take id = 3")], (0, 3)),
            ([limited(f"id = {'9' * 30} or id = -{'9' * 30}")], (-(10 ** 30 - 1), 0, 10 ** 30 - 1)),
        ):
            cases = Cases(texts)
            self.assertEqual(cases.numbers, numbers)
            self.assertIs(type(cases.numbers), tuple)
            self.assertEqual(Cases(tuple(texts)).numbers, numbers)

    def test_too_many_numbers(self):
        four = [built("take id = 3 & id != 4"), limited("id = 5 or id = 0")]
        self.assertEqual(Cases(four).numbers, (0, 3, 4, 5))
        for more in (built("take id = 6"), limited("id = -3"), built("def f ( p ) : p = 6\ntake every")):
            self.assertEqual(error_of(Cases, [*four, more]), ("TooMany", "numbers"))
        self.assertEqual(error_of(Cases, [built("take id = 3 | id = 4 | id = 5 | me = 6")]), ("TooMany", "numbers"))

    def test_wrong_form(self):
        for texts in ([built("take every"), built("take every", SMALL)], [limited("true", BARE), built("take every")],
                      [built("take every"), limited("true"), limited("true", LISTS)]):
            self.assertEqual(error_of(Cases, texts), ("WrongForm",))
        many = built("take id = 1 & id = 2 & id = 3 & id = 4")
        self.assertEqual(error_of(Cases, [many, limited("true", SMALL)]), ("WrongForm",))
        with self.assertRaises(WrongForm):
            Cases(texts=[many, limited("true", SMALL)])

    def test_too_many_cases(self):
        for text, many in ((f"({EIGHT}) and ({FIVE})", 40), (f"({NINE}) and ({FIVE})", 45),
                           (f"({EIGHT}) and ({FIVE}) and id = owner", 45)):
            limit = limited(text, BARE)
            if many <= 40:
                self.assertEqual(len(Cases([limit])), many)
            else:
                self.assertEqual(error_of(Cases, [limit]), ("TooMany", "cases"))
        self.assertEqual(error_of(Cases, [limited(EIGHT, BARE), limited(FIVE, BARE)]), None)
        self.assertEqual(error_of(Cases, [built(FORTY_ONE)]), ("TooMany", "cases"))
        many = built("take " + " | ".join(f"{column} {sign} {number}" for column in WIDE.columns for sign in ("=", "<")
                                          for number in (0, 3, 5)), WIDE)
        self.assertEqual(error_of(Cases, [many]), ("TooMany", "cases"))
        numbers = built("take id = 1 & id = 2 & id = 3 & id = 4 & id = me & owner = you")
        with self.assertRaises(TooMany) as caught:
            Cases([numbers, built(FORTY_ONE)])
        self.assertEqual(caught.exception.what, "numbers")

    def test_how_many_by_trying(self):
        brute = Brute([plain_forty_one()])
        rows = itertools.product(near([0, 3], 2), repeat=2)
        marks = {brute.marks(row, options) for row in rows
                 for options in itertools.product([None, *near([0, 3, *row], 1)], repeat=2)}
        self.assertEqual(len(marks), 41)


def plain_forty_one():
    """FORTY_ONE as data."""
    lines = [
        ("set", "c", "|=", ("~", ("test", "owner", "<=", 0)), False),
        ("for", "f", "ys", [
            ("set", "c", "|=", ("pick", ("compare", "f", "=", 0), ("blank",), ("test", "you", "!=", "owner")), False),
            ("skip",),
            ("set", "c", "=", ("|", ("test", "f", "=", 3), ("test", "id", "=", "owner")), False)]),
        ("take", ("all", "e", "ys", ("|", ("test", "e", "=", "id"), ("test", "you", "=", 3))), False),
    ]
    plain = Plain(LARGE, [], lines)
    assert str(made(plain)) == str(built(FORTY_ONE))
    return plain


class Counts(unittest.TestCase):
    def test_how_many(self):
        for text, shape, many in (
            ("take every", BARE, 1), ("take id = 3", BARE, 2), ("take id = 3 | id < 3", BARE, 3), ("take id = owner", BARE, 2),
            ("take id = id", BARE, 1), ("take id = me", SMALL, 3), ("take me = 3", SMALL, 3), ("take me = 3 | me < 3", SMALL, 4),
            ("if me :\n  refuse\ntake every", SMALL, 2), ("if given me :\n  refuse\ntake every", SMALL, 2),
            ("if given me and me :\n  refuse\ntake every", SMALL, 3), ("if me = 0 :\n  refuse\ntake every", SMALL, 2),
            ("if me != 3 :\n  refuse\ntake me = 3", SMALL, 3), ("if me = 3 :\n  refuse\ntake id = me", SMALL, 5),
            ("take id = me | id = you", OPTIONS, 9), ("take pick ( me , every , none ) & id = you", OPTIONS, 6),
            # Each place counts, also where no run comes; those of functions only where it is called.
            ("refuse\nc = id = 3\ntake every", BARE, 2), ("take pick ( me and not me , id = 3 , every )", SMALL, 4),
            ("def f ( p ) : id = p\ntake every", SMALL, 1), ("def f ( p ) : id = p\ntake f ( me )", SMALL, 3),
            ("def f ( p ) : id = 3\ndef g ( p ) : f ( p ) & owner = p\ntake every", SMALL, 1),
            ("def f ( p ) : id = 3\ndef g ( p ) : f ( p ) & owner = p\ntake g ( me )", SMALL, 6),
            ("for e in xs :\n  break\n  c = id = me\ntake c", ONE, 3),
            # Pictures: which of them there are.
            ("take id in xs", ONE, 1), ("take any e in xs : id = e", ONE, 1), ("take any e in xs : e = 3", ONE, 1),
            ("take any e in xs : ( e = 3 | id = e )", ONE, 2), ("take id in xs | any e in xs : e < 3", ONE, 2),
            ("take id in xs | any e in ys : e < 3", LISTS, 1), ("take any e in xs : ( id = e & e > 3 & e < 5 )", ONE, 3),
            ("take any e in xs : ( id = e & e > 3 & e < 6 )", ONE, 3),
            ("if xs :\n  refuse\ntake every", ONE, 1),
        ):
            self.assertEqual(len(Cases([built(text, shape)])), many, text)

    def test_how_many_with_limits(self):
        for text, shape, many in (
            ("true", BARE, 1), ("id = 3", BARE, 2), ("id = me", SMALL, 2), ("me = 3", SMALL, 2), ("me != 3", SMALL, 2),
            ("not me = 3", SMALL, 2), ("me = 3 or me != 3", SMALL, 3), ("given me", SMALL, 2), ("given me or me = 3", SMALL, 3),
            ("any e in ids : id = e", SMALL, 1), ("any e in ids : ( id = e and e = 3 )", SMALL, 2),
        ):
            self.assertEqual(len(Cases([limited(text, shape)])), many, text)
        # In a limit a missing option and a false test give the same; in a builder they do not.
        builder, limit = built("take id = me", SMALL), limited("id = me", SMALL)
        self.assertEqual(len(Cases([builder, limit])), 3)
        self.assertEqual(len(Cases([limit, limit, limit])), 2)
        cases = Cases([limit])
        self.assertTrue(cases.same(((3, 4), (None,)), ((3, 4), (5,))))
        self.assertFalse(cases.same(((3, 4), (None,)), ((3, 4), (3,))))
        cases = Cases([builder])
        self.assertFalse(cases.same(((3, 4), (None,)), ((3, 4), (5,))))
        self.assertTrue(cases.same(((3, 4), (9,)), ((3, 9), (10 ** 199,))))

    def test_few_integers_between_numbers(self):
        """The example of 6: between 3 and 5 only one integer can be unequal to the columns, or none."""
        for high, alike in ((5, False), (6, True)):
            text = f"any e in ids : ( e > 3 and e < {high} and not id = e and not owner = e )"
            cases = Cases([limited(text, SMALL)])
            self.assertIs(cases.same(((4, 9), (None,)), ((0, 9), (None,))), False)
            self.assertIs(cases.same(((4, 4), (None,)), ((4, 9), (None,))), False)
        cases = [Cases([limited(f"any e in ids : ( e > 3 and e < {high} and ( id = e or owner = e or true ) )", SMALL)])
                 for high in (5, 6)]
        pair, other = ((4, 9), (None,)), ((5, 9), (None,))
        self.assertFalse(cases[0].same(pair, other))
        self.assertTrue(cases[1].same(pair, other))
        two = [((4, 5), (None,)), ((4, 4), (None,))]
        text = "any e in ids : ( e > 3 and e < 6 and ( id = e or id = e ) )"
        self.assertTrue(Cases([limited(text, SMALL)]).same(*two))

    def test_options_do_not_hang_on_one_another(self):
        cases = Cases([built("take id = me & id != you", OPTIONS)])
        self.assertTrue(cases.same(((3,), (4, 4)), ((3,), (4, 5))))
        self.assertTrue(cases.same(((3,), (3, 4)), ((9,), (9, 0))))
        self.assertFalse(cases.same(((3,), (3, 4)), ((3,), (3, 3))))
        self.assertFalse(cases.same(((3,), (None, 4)), ((3,), (3, 4))))


class AsItHappens(unittest.TestCase):
    def some_texts(self, chance, shape):
        numbers = chance.choice([[0], [0, 3], [3, 5], [1], [3, 10 ** 29]])
        return [chances.some_builder(chance, shape, numbers, 2) if chance.random() < 0.7
                else chances.some_limit(chance, shape, numbers, 1) for _ in range(chance.choice([1, 1, 2, 3]))]

    def test_cases(self):
        chance = random.Random(27)
        found = []
        while len(found) < 700:
            shape = chance.choice(SHAPES)
            plains = self.some_texts(chance, shape)
            error = next((error for error in (error_of(made, plain) for plain in plains) if error), None)
            if error:
                continue
            brute = Brute(plains)
            texts = [made(plain) for plain in plains]
            error = error_of(Cases, texts)
            if error:
                self.assertEqual(error, ("TooMany", "cases" if len(brute.numbers) <= 4 else "numbers"))
                continue
            cases = Cases(texts)
            found.append(len(cases))
            self.assertEqual(cases.numbers, tuple(sorted(brute.numbers)))
            self.look_at(chance, shape, cases, brute)
        self.assertGreater(len(set(found)), 12)

    def look_at(self, chance, shape, cases, brute):
        pairs = cases.each()
        marks = [brute.marks(*pair) for pair in pairs]
        self.assertEqual(len(set(marks)), len(cases))
        self.assertEqual(len(pairs), len(cases))
        integers = [0, 1, 2, 3, 4, 9, -1, 10 ** 29, 10 ** 29 + 1, -(10 ** 150)]
        for _ in range(5):
            row = tuple(chance.choice(integers) for _ in shape.columns)
            options = tuple(chance.choice([None, *integers, *row]) for _ in shape.options)
            hits = [at for at, pair in enumerate(pairs) if cases.same((row, options), pair)]
            self.assertEqual(hits, [at for at, mark in enumerate(marks) if mark == brute.marks(row, options)])
            self.assertEqual(len(hits), 1)
            self.assertLessEqual(given(pairs[hits[0]][1]), given(options))
            self.assertIs(cases.same(pairs[hits[0]], (row, options)), True)


class Objects(unittest.TestCase):
    def test_pairs(self):
        form = form_of(LARGE)
        cases = Cases([built("take id = me & you != 3 | owner = 3")])
        for row, options in cases.each():
            self.assertIn(row, form.table)
            self.assertIs(type(options), tuple)
            self.assertEqual(form.checked(form.inputs(options, ((), ()))), (options, ((), ())))
        self.assertEqual(len(cases), 18)

    def test_results_are_new_and_arguments_stay(self):
        texts = [built("take id = me"), limited("id = you")]
        cases = Cases(texts)
        pairs = cases.each()
        self.assertEqual(len(texts), 2)
        texts.append(built("take id = 3"))
        pairs.clear()
        self.assertEqual(len(cases.each()), len(cases))
        self.assertEqual(cases.numbers, (0,))
        self.assertEqual(sorted(cases.each(), key=str), sorted(Cases(texts[:2]).each(), key=str))
        self.assertTrue(cases.same(one=((1, 2), (1, 2)), other=((3, 2), (3, 2))))

    def test_names_do_not_matter(self):
        one = Cases([built("for e in xs :\n  c |= id = e & e = 3\nif me = 3 :\n  c &= owner = me\ntake c")])
        other = Cases([built("for f in ys :\n  k |= owner = f & f = 3\nif you = 3 :\n  k &= id = you\ntake k")])
        self.assertEqual(len(one), len(other))


if __name__ == "__main__":
    unittest.main()
