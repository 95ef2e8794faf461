"""Builders that take the same rows, and builders that are apart (35)."""

import unittest

import tried
from emptyfilters.comparing import Comparison, compare
from emptyfilters.looker import is_table
from made import BARE, LARGE, LISTS, ONE, OPTIONS, SMALL, built, error_of, form_of, size_of

EXAMPLE = "for e in ids :\n  c |= id = e\nif me :\n  c &= owner = me\ntake c"


class Compared(unittest.TestCase):
    def check(self, text, other, size, shape=SMALL):
        """They take the same rows, if size is None, or are apart with inputs of a size."""
        one, other = built(text, shape), built(other, shape)
        for builders in ((one, other), (other, one)):
            comparison = compare(*builders)
            self.assertIs(type(comparison), Comparison)
            self.assertIs(bool(comparison), size is None, (text, comparison.apart))
            self.assertIs(is_table(comparison.cases, list(builders)), True)
            if size is None:
                self.assertIsNone(comparison.apart)
            else:
                row, options, lists = comparison.apart
                inputs = form_of(shape).inputs(options, lists)
                self.assertEqual(size_of(options, lists), size, (text, comparison.apart))
                self.assertNotEqual(one.takes(row, inputs), other.takes(row, inputs))

    def test_same_and_apart(self):
        for one, other, size in (
            ("take every", "take every", None), ("take every", "take blank", None), ("take every", "take none", 0),
            ("take none", "refuse\ntake every", None), ("take blank", "refuse\ntake every", 0),
            ("take id = 3", "take ~ id != 3", None), ("take id = 3", "take id > 2 & id < 4", None),
            ("take id > 3", "take id >= 4", None), ("take id > 3", "take id >= 3", 0), ("take id = me", "take me = id", None),
            ("take id = me", "guard take id = me", 0), ("take id = me", "if given me :\n  c = id = me\ntake c", None),
            ("take id = me", "if me :\n  c = id = me\ntake c", 1), ("take id = me", "if me != 0 :\n  c = id = me\ntake c", 1),
            ("take id in ids", "take any e in ids : id = e", 0), ("take id in ids", "guard take any e in ids : id = e", None),
            ("take id in ids", "for e in ids :\n  c |= id = e\nguard take c", None),
            (EXAMPLE, "d = any e in ids : id = e\nif me != 0 :\n  d &= owner = me\ntake d", None),
            (EXAMPLE, "d = any e in ids : id = e\nif given me :\n  d &= owner = me\ntake d", 1),
            (EXAMPLE, EXAMPLE.replace("take", "guard take"), 0),
            ("take all e in ids : id != e", "take ~ any e in ids : id = e", None),
            ("take all e in ids : id != e", "take ~ id in ids", None),
            ("take all e in ids : id = e", "for e in ids :\n  c = id = e\ntake c", 2),
            ("take all e in ids : id = e", "for e in ids :\n  c = id = e\n  break\ntake c", 2),
            ("for e in ids :\n  c = ~ c\n  if not c :\n    c = id = 3\ntake c",
             "for e in ids :\n  if c :\n    c = ~ c\n  else :\n    c = id = 3\ntake c", None),
            ("if ids :\n  refuse\ntake every", "for e in ids :\n  refuse\ntake every", None),
            ("if ids :\n  refuse\ntake every", "for e in ids :\n  if e :\n    refuse\ntake every", 1),
        ):
            self.check(one, other, size)

    def test_other_forms(self):
        self.check("take every", "take id = id", None, BARE)
        self.check("take id != owner", "take ~ ( owner = id )", None, BARE)
        self.check("take id = me | id = you", "take id = you | id = me", None, OPTIONS)
        self.check("take id = me & id = you", "take pick ( given me and given you , none , id = me | id = you )", 2, OPTIONS)
        self.check("for e in xs :\n  for f in ys :\n    c |= id = f\ntake c", "if xs :\n  c = any f in ys : id = f\ntake c", None,
                   LISTS)
        self.check("take any e in xs : any f in ys : id = e", "take any f in ys : any e in xs : id = e", None, LISTS)
        self.check("take any e in xs : all f in ys : ( id = e | owner = f )",
                   "take all f in ys : any e in xs : ( id = e | owner = f )", None, LARGE)
        self.check("take any e in xs : all f in ys : ( id = e & f > 0 )", "take all f in ys : any e in xs : ( id = e & f >= 0 )",
                   2, LARGE)

    def test_names_of_variables_and_functions_do_not_matter(self):
        self.check("def f ( p ) : id = p & p > 3\nk = f ( me )\ntake k", "d = id = me & me > 3\ntake d", None)

    def test_long_lists(self):
        one = built("for e in xs :\n  c |= c & id = e\ntake c", ONE)
        other = built("for e in xs :\n  c |= id = e\n  break\ntake c", ONE)
        self.assertTrue(compare(one, other))
        for row in ((5,), (6,), (1999,)):
            for many in ([5] * 2000, list(range(5, 2005)), list(range(2000))):
                self.assertEqual(one.takes(row, {"xs": many}), other.takes(row, {"xs": many}))

    def test_errors(self):
        every = built("take every")
        numbers = "take id = 1 | id = 2 | id = 3 | id = 4"
        cases = "take " + " | ".join(f"{column} {sign} {number}" for column in ("id", "owner") for sign in ("=", "<")
                                     for number in (0, 3, 5))
        choices = "if xs or ys :\n  refuse\ntake id in xs | owner in xs | id in ys | owner in ys"
        for one, other, error in (
            (built(numbers, SMALL), every, ("WrongForm",)), (built(numbers), every, ("TooMany", "numbers")),
            (built("take id = 1 | id = 2"), built("take id = 3 | id = 4"), ("TooMany", "numbers")),
            (built(cases), every, ("TooMany", "cases")), (built(choices), every, ("TooMany", "choices")),
            (built("if xs :\n  refuse\ntake id in xs | owner in xs"), built("if ys :\n  refuse\ntake id in ys | owner in ys"),
             ("TooMany", "choices")),
        ):
            self.assertEqual(error_of(compare, one, other), error)
            self.assertEqual(error_of(compare, other=one, one=other), error)

    def test_objects(self):
        one, other = built(EXAMPLE, SMALL), built("take every", SMALL)
        first, second = compare(one, other), compare(one, other)
        self.assertEqual((first.cases, first.apart), (second.cases, second.apart))
        self.assertIs(type(first.cases), tuple)
        self.assertTrue(all(type(thing) is tuple for thing in (first.apart, *first.apart, *first.apart[2])))
        self.assertTrue(compare(one, one))

    def test_as_it_happens(self):
        found = []
        some = tried.some_plains(35, ["builder", "builder"])
        while len(found) < 250:
            chance, (plain, other), texts, brute = next(some)
            if error_of(compare, *texts):
                continue
            comparison = compare(*texts)

            def are_apart(row, options, lists):
                return plain.takes(row, options, lists) != other.takes(row, options, lists)

            size = 3
            if comparison.apart:
                self.assertTrue(are_apart(*comparison.apart))
                size = size_of(*comparison.apart[1:])
            rows = tried.some_rows(chance, brute, 20)
            self.assertIsNone(tried.smaller(brute, rows, size, are_apart), (plain.text, other.text, comparison.apart))
            found.append(None if comparison else size)
        self.assertTrue(all(found.count(size) > 3 for size in (None, 0, 1)), found)


if __name__ == "__main__":
    unittest.main()
