"""Verdicts, blank inputs and reach (32, 33)."""

import itertools
import unittest

import tried
from emptyfilters.errors import NotReached
from emptyfilters.judging import Reach, Verdict, blank_inputs, judge
from emptyfilters.looker import is_table
from made import BARE, LARGE, LISTS, ONE, OPTIONS, SMALL, WIDE, built, error_of, form_of, limited, size_of

EXAMPLE = "for e in ids :\n  c |= id = e\nif me :\n  c &= owner = me\ntake c"
LIMIT = "id in ids and (owner = me or not given me)"

NUMBERS = "take id = 1 | id = 2 | id = 3 | id = 4"
CASES = "take " + " | ".join(f"{column} {sign} {number}" for column in ("id", "owner") for sign in ("=", "<")
                             for number in (0, 3, 5))
CHOICES = "if xs or ys :\n  refuse\ntake id in xs | owner in xs | id in ys | owner in ys"


class Judged(unittest.TestCase):
    def check(self, text, limit, size, shape=SMALL):
        """The builder is within the limit, if size is None, or beyond it with inputs of a size."""
        builder, limit = built(text, shape), limited(limit, shape)
        verdict = judge(builder, limit)
        self.assertIs(type(verdict), Verdict)
        self.assertEqual(verdict.size, size, (text, verdict.beyond))
        self.assertIs(bool(verdict), size is None)
        self.assertIs(is_table(verdict.cases, [builder, limit]), True)
        if size is None:
            self.assertIsNone(verdict.beyond)
        else:
            row, options, lists = verdict.beyond
            form = form_of(shape)
            inputs = form.inputs(options, lists)
            self.assertEqual(form.checked(inputs), (options, lists))
            self.assertEqual(size_of(options, lists), size)
            self.assertTrue(builder.takes(row, inputs))
            self.assertIn(row, builder(inputs))
            self.assertFalse(limit(row, inputs))
        return verdict

    def test_example(self):
        verdict = self.check(EXAMPLE, LIMIT, 0)
        self.assertEqual(verdict.beyond[1:], ((None,), ((),)))
        verdict = self.check(EXAMPLE.replace("take", "guard take"), LIMIT, 1)
        row, options, lists = verdict.beyond
        self.assertEqual((lists, options), (((),), (row[1],)))
        self.assertNotEqual(row[1], 0)

    def test_within_and_beyond(self):
        for text, limit, size in (
            ("take every", "true", None), ("take every", "false", 0), ("take none", "false", None), ("take blank", "true", None),
            ("take blank", "id = 3", 0), ("refuse\ntake every", "false", None), ("take id = 3", "id = 3", None),
            ("take id = 3", "id > 2 and id < 4", None), ("take id > 3", "id >= 4", None), ("take id >= 3", "id > 3", 0),
            ("take id = me", "id = me", 0), ("guard take id = me", "id = me", None), ("take id = me", "id = me or not given me",
                                                                                   None),
            ("if me :\n  c = id = me\nguard take c", "id = me", None), ("if given me :\n  refuse\ntake every",
                                                                        "not given me", None),
            ("if not me :\n  refuse\ntake every", "me = 0 or not given me", 1), ("take id in ids", "id in ids", None),
            ("take any e in ids : id = e", "id in ids", 0), ("guard take any e in ids : id = e", "id in ids", None),
            ("take ~ id in ids", "not id in ids", None), ("take all e in ids : id != e", "not id in ids", None),
            ("take all e in ids : id = e", "all e in ids : id = e", None), ("take id in ids", "all e in ids : id = e", 2),
            ("if ids :\n  c = every\nelse :\n  c = none\ntake c", "not any e in ids : true", 1),
            ("for e in ids :\n  if c :\n    c = every\n  else :\n    c = none\nguard take c", "false", 2),
            ("c = none\nfor e in ids :\n  if e = 3 :\n    c = every\ntake c", "false", 1),
            ("c = none\nfor e in ids :\n  if e = 3 :\n    c = every\ntake c", "any e in ids : e = 3", None),
            ("if me = 3 :\n  refuse\ntake pick ( given me , every , none )", "me != 3", None),
            ("guard take any e in ids : pick ( e > 0 , id = e , blank )", "id > 0", None),
        ):
            self.check(text, limit, size)

    def test_least_sizes(self):
        for many in range(4):
            asks = [f"( none | any e in xs : pick ( e = {number} , every , none ) )" for number in (3, 5, 7)[:many]]
            text = "take " + " & ".join(["every", *asks])
            verdict = self.check(text, "false", many, ONE)
            self.assertEqual(verdict.beyond[1], (None,))
            self.assertEqual(sorted(verdict.beyond[2][0]), [3, 5, 7][:many])
            self.check(text, "any e in xs : e = 7", None if many == 3 else many, ONE)

    def test_options_and_lists_count(self):
        text = "if not ( me and you > 3 and xs ) :\n  refuse\ntake id in ys"
        verdict = self.check(text, "false", 4, LARGE)
        row, options, lists = verdict.beyond
        self.assertNotIn(None, options)
        self.assertEqual([len(integers) for integers in lists], [1, 1])
        self.check(text, "id in ys", None, LARGE)
        self.check(text, "id in xs", 4, LARGE)
        self.check("if given me and given you :\n  refuse\ntake id = me | id = you", "id = me or id = you", 0, OPTIONS)
        self.check("if given me and given you :\n  refuse\nguard take id = me | id = you", "id = me or id = you", None, OPTIONS)

    def test_two_lists(self):
        text = "for e in xs :\n  for f in ys :\n    c |= id = e & owner = f\nguard take c"
        self.check(text, "id in xs and owner in ys", None, LARGE)
        self.check(text, "id in ys", 2, LARGE)
        self.check(text.replace("guard ", ""), "id in xs and owner in ys", 0, LARGE)
        text = "for e in xs :\n  for f in ys :\n    if f = 3 :\n      break\n    c |= id = f\nguard take c"
        self.check(text, "id in ys", None, LISTS)
        self.check(text, "not id = 3", None, LISTS)
        self.check(text, "not any f in ys : f = 3", 3, LISTS)

    def test_few_integers_between_numbers(self):
        """Between 3 and 5 there is only 4; so an element and an unequal column cannot both be there."""
        text = "guard take any e in xs : pick ( e > 3 and e < {} , id != e & id > 3 & id < {} , none )"
        self.check(text.format(5, 5), "false", None, ONE)
        self.check(text.format(6, 6), "false", 1, ONE)
        text = "guard take any e in ids : ( id != e & owner != e & id != owner & " + " & ".join(
            f"{column} > 3 & {column} < HIGH" for column in ("id", "owner", "e")) + " )"
        for high, size in (("5", None), ("6", None), ("7", 1)):
            self.check(text.replace("HIGH", high), "false", size)

    def test_far_numbers(self):
        far = "9" * 30
        text = f"if not given me :\n  refuse\ntake id > {far} & id = me"
        self.check(text, f"me <= -{far}", 1)
        self.check(text, f"me > {far}", None)
        self.check(f"take id > {far} & id = me", f"me > {far}", 0)

    def test_questions_look_at_no_row(self):
        self.check("if me = 0 :\n  c = every\nelse :\n  c = none\ntake c", "false", 1)
        self.check("if me != 0 :\n  c = every\nelse :\n  c = none\ntake c", "given me", None)
        self.check("if me or not given me :\n  c = every\nelse :\n  c = none\ntake c", "me != 0", 0)

    def test_errors(self):
        limit = limited("true")
        for builder, limits, error in (
            (built(NUMBERS), limited("true", SMALL), ("WrongForm",)), (built(NUMBERS), limit, ("TooMany", "numbers")),
            (built(CASES), limit, ("TooMany", "cases")), (built(CHOICES), limit, ("TooMany", "choices")),
            (built("take id = 1 | id = 2"), limited("id = 3 or id = 4"), ("TooMany", "numbers")),
            (built("take id < 0 | id = 0 | id < 3 | id = 3 | owner < 0 | owner = 0 | owner < 3"), limited("id = me or id = 5"),
             ("TooMany", "cases")),
            (built("if xs :\n  refuse\ntake id in xs | owner in xs"), limited("id in ys and owner in ys and any e in ys : e = 3"),
             ("TooMany", "choices")),
        ):
            self.assertEqual(error_of(judge, builder, limits), error)
            self.assertEqual(error_of(judge, limit=limits, builder=builder), error)

    def test_same_call_gives_equal_values(self):
        builder, limit = built(EXAMPLE, SMALL), limited(LIMIT, SMALL)
        one, other = judge(builder, limit), judge(builder, limit)
        self.assertEqual((one.cases, one.beyond, one.size), (other.cases, other.beyond, other.size))

    def test_as_it_happens(self):
        found = []
        some = tried.some_plains(32, ["builder", "limit"])
        while len(found) < 250:
            chance, (plain, limit), texts, brute = next(some)
            if error_of(judge, *texts):
                continue
            verdict = judge(*texts)

            def is_beyond(row, options, lists):
                return plain.takes(row, options, lists) and not limit.allows(row, options, lists)

            if verdict.beyond:
                self.assertTrue(is_beyond(*verdict.beyond), (plain.text, limit.text, verdict.beyond))
                self.assertEqual(verdict.size, size_of(*verdict.beyond[1:]))
            size = 3 if verdict else verdict.size
            less = tried.smaller(brute, tried.some_rows(chance, brute, 20), size, is_beyond)
            self.assertIsNone(less, (plain.text, limit.text, verdict.beyond))
            found.append(verdict.size)
        self.assertTrue(all(found.count(size) > 3 for size in (None, 0, 1, 2)), found)


class Blank(unittest.TestCase):
    def check(self, text, wanted, shape=SMALL):
        """There are blank inputs of a size, or none."""
        builder = built(text, shape)
        found = blank_inputs(builder)
        if wanted is None:
            self.assertIsNone(found, text)
        else:
            options, lists = found
            self.assertEqual(size_of(options, lists), wanted, (text, found))
            inputs = builder.form.inputs(options, lists)
            self.assertEqual(builder.form.checked(inputs), (options, lists))
            self.assertTrue(builder(inputs).is_blank)
        return found

    def test_blank_inputs(self):
        self.assertEqual(self.check(EXAMPLE, 0), ((None,), ((),)))
        self.check(EXAMPLE.replace("take", "guard take"), None)
        for text, wanted in (
            ("take blank", 0), ("take every", None), ("take none", None), ("take id = me", 0), ("take id in ids", None),
            ("refuse\ntake blank", None), ("if not me :\n  refuse\ntake blank", 1), ("take c", 0),
            ("if not me and not ids :\n  refuse\nc |= id = me\ntake c", 1), ("take pick ( ids , blank , every )", 1),
            ("take pick ( ids and me > 3 , blank , every )", 2), ("c = every\nif me = 0 :\n  c = blank\ntake c", 1),
            ("for e in ids :\n  if c :\n    c = blank\n    break\n  c = every\nif not ids :\n  refuse\ntake c", 2),
            ("guard c = id = me\ntake c", None), ("guard c = id = me\ntake d", 0), ("take any e in ids : blank", 0),
            ("if ids :\n  c = any e in ids : id = me\nelse :\n  c = every\ntake c", 1), ("take ~ ( c & d )", 0),
        ):
            self.check(text, wanted)
        self.assertEqual(self.check("take blank", 0, BARE), ((), ()))
        self.assertEqual(self.check("take id = me", 0, OPTIONS), ((None, None), ()))
        self.check("if not ( me and you ) :\n  refuse\ntake blank", 2, OPTIONS)
        self.check("if not xs or not ys :\n  refuse\ntake blank", 2, LISTS)

    def test_errors(self):
        for text, error in ((NUMBERS, "numbers"), (CASES, "cases"), (CHOICES, "choices")):
            self.assertEqual(error_of(blank_inputs, built(text)), ("TooMany", error))
            self.assertEqual(error_of(blank_inputs, builder=built(text)), ("TooMany", error))

    def test_as_it_happens(self):
        found = []
        some = tried.some_plains(33, ["builder"])
        while len(found) < 250:
            _, (plain,), (builder,), brute = next(some)
            if error_of(blank_inputs, builder):
                continue

            def is_blank(row, options, lists):
                return plain.run(row, options, lists)[:2] == (False, None)

            row = tuple(0 for _ in brute.shape.columns)
            inputs = blank_inputs(builder)
            size = 3
            if inputs is not None:
                self.assertTrue(is_blank(row, *inputs), plain.text)
                size = size_of(*inputs)
            self.assertIsNone(tried.smaller(brute, [row], size, is_blank), (plain.text, inputs))
            found.append(None if inputs is None else size)
        self.assertTrue(all(found.count(size) > 3 for size in (None, 0, 1)), found)


class Reached(unittest.TestCase):
    def test_example(self):
        reach = Reach(built(EXAMPLE, SMALL))
        for row in ((0, 0), (7, 5), (-3, 10 ** 199)):
            self.assertIs(row in reach, True)
            self.assertEqual(reach.inputs(row), ((None,), ((),)))
        self.assertIsNone(reach.missed)
        self.assertIs(is_table(reach.cases, [built(EXAMPLE, SMALL)]), True)
        reach = Reach(built(EXAMPLE.replace("take", "guard take"), SMALL))
        self.assertIs((7, 0) in reach, True)
        self.assertEqual(reach.inputs((7, 0)), ((None,), ((7,),)))
        self.assertIn(reach.inputs((7, 5)), [((5,), ((),)), ((None,), ((7,),))])
        self.assertIsNone(reach.missed)

    def test_rows_and_other_values(self):
        reach = Reach(built("take id > 3 & owner = 5", SMALL))
        for thing, wanted in (((4, 5), True), ((10 ** 199, 5), True), ((3, 5), False), ((4, 4), False), ((4, True), False),
                              ([4, 5], False), ((4,), False), ((4, 5, 5), False), ((), False), (None, False), (4, False),
                              ("45", False), ((4, "5"), False), ((4, None), False), (((4, 5),), False), ((4, [5]), False),
                              ([[4, 5]], False), ((-4, 5), False)):
            self.assertIs(thing in reach, wanted, thing)
        self.assertNotIn(reach.missed, reach)
        self.assertIn(reach.missed, form_of(SMALL).table)
        every = Reach(built("take every", SMALL))
        for thing in ((True, 5), [4, 5], "ab", None, (1,), (1, 2, 3), ((1, 2),)):
            self.assertIs(thing in every, False)
        one = Reach(built("take id = 1", ONE))
        self.assertEqual([thing in one for thing in ((1,), (True,), 1, [1], (2,))], [True, False, False, False, False])

    def test_reach(self):
        for text, shape, inside, outside in (
            ("take none", BARE, [], [(0, 0), (3, 5)]), ("refuse\ntake every", BARE, [], [(3, 3)]),
            ("take id = owner", BARE, [(3, 3)], [(3, 4)]), ("guard take id = me", ONE, [(3,), (0,)], []),
            ("if not me :\n  refuse\ntake id = me", ONE, [(3,), (-3,)], [(0,)]),
            ("take id in xs & all e in xs : id != e", ONE, [], [(0,), (5,)]),
            ("guard take any e in xs : pick ( e > 3 and e < 5 , id != e & id > 3 & id < 5 , none )", ONE, [], [(4,), (5,)]),
            ("guard take any e in xs : pick ( e > 3 and e < 6 , id != e & id > 3 & id < 6 , none )", ONE, [(4,), (5,)],
             [(3,), (6,)]),
            ("if me < 4 or me > 6 or not given me :\n  refuse\ntake a = me & b != me & z = 3", WIDE,
             [(4, 5, 3), (6, 10, 3)], [(3, 5, 3), (7, 1, 3), (5, 5, 3), (4, 5, 4)]),
        ):
            reach = Reach(built(text, shape))
            self.assertEqual([row in reach for row in inside], [True] * len(inside), text)
            self.assertEqual([row in reach for row in outside], [False] * len(outside), text)
            self.assertEqual(reach.missed is not None, bool(outside), text)
            for row in inside:
                options, lists = reach.inputs(row)
                self.assertTrue(built(text, shape).takes(row, form_of(shape).inputs(options, lists)))
            for row in outside:
                self.assertEqual(error_of(reach.inputs, row), ("NotReached", row))
            if outside:
                self.assertNotIn(reach.missed, reach)
                self.assertEqual(error_of(reach.inputs, row=reach.missed), ("NotReached", reach.missed))

    def test_inputs_of_the_least_size(self):
        text = "if not ids :\n  refuse\nfor e in ids :\n  if e = 3 :\n    break\n  c |= id = e\nc &= owner = me\nguard take c"
        reach = Reach(built(text, SMALL))
        for row, size in (((5, 7), 1), ((3, 7), 2), ((0, 0), 1)):
            options, lists = reach.inputs(row)
            self.assertEqual(size_of(options, lists), size)
        self.assertEqual(reach.inputs((3, 7)), ((7,), ((3,),)))
        with self.assertRaises(NotReached) as caught:
            Reach(built("take id = 3", SMALL)).inputs((4, 4))
        self.assertEqual(caught.exception.row, (4, 4))

    def test_errors(self):
        for text, error in ((NUMBERS, "numbers"), (CASES, "cases"), (CHOICES, "choices")):
            self.assertEqual(error_of(Reach, built(text)), ("TooMany", error))
            self.assertEqual(error_of(Reach, builder=built(text)), ("TooMany", error))

    def test_long_lists(self):
        """What long lists do, short ones do, too: a row that any list lets through is reached."""
        builder = built("for e in xs :\n  c |= c & id = e\n  if e = 3 :\n    refuse\nguard take c", ONE)
        reach = Reach(builder)
        for row, wanted in (((5,), True), ((3,), False)):
            self.assertIs(row in reach, wanted)
            for many in (1, 7, 2000):
                lists = [[row[0]] * many, [*range(4, 4 + many)], [row[0], *[4] * (many - 1)]]
                taken = any(builder.takes(row, {"xs": integers}) for integers in lists)
                self.assertTrue(wanted or not taken)
        verdict = judge(built("for e in xs :\n  c &= id != e\nguard take c", ONE), limited("not id in xs", ONE))
        self.assertTrue(verdict)
        builder = built("for e in xs :\n  c = ~ c\nif c :\n  refuse\nfor e in xs :\n  if d :\n    d = ~ d\n  else :\n    d = every\ntake d", ONE)
        verdict = judge(builder, limited("any e in xs : true", ONE))
        self.assertEqual(verdict.size, 0)
        for many in (1999, 2000):
            self.assertIs(builder.takes((5,), {"xs": [5] * many}), many % 2 == 1)

    def test_as_it_happens(self):
        found = []
        some = tried.some_plains(330, ["builder"])
        while len(found) < 150:
            chance, (plain,), (builder,), brute = next(some)
            if error_of(Reach, builder):
                continue
            reach = Reach(builder)
            rows = tried.some_rows(chance, brute, 6)
            if reach.missed is not None:
                rows.append(reach.missed)
                self.assertNotIn(reach.missed, reach)
            for row in rows:
                size = 3
                if row in reach:
                    inputs = reach.inputs(row)
                    self.assertTrue(plain.takes(row, *inputs), (plain.text, row, inputs))
                    size = size_of(*inputs)
                else:
                    self.assertIsNotNone(reach.missed)
                    self.assertEqual(error_of(reach.inputs, row), ("NotReached", row))
                self.assertIsNone(tried.smaller(brute, [row], size, plain.takes), (plain.text, row))
            found.append(reach.missed is None)
        self.assertGreater(found.count(True), 20)
        self.assertGreater(found.count(False), 20)


class Objects(unittest.TestCase):
    def test_attributes(self):
        builder, limit = built(EXAMPLE, SMALL), limited(LIMIT, SMALL)
        verdict, reach = judge(builder, limit), Reach(builder)
        for table in (verdict.cases, reach.cases):
            self.assertIs(type(table), tuple)
            for row, options, lists in table:
                self.assertTrue(all(type(thing) is tuple for thing in (row, options, lists, *lists, *lists[0])))
        self.assertTrue(all(type(thing) is tuple for thing in (verdict.beyond, *verdict.beyond)))
        self.assertTrue(type(reach.inputs((3, 4))) is tuple and type(blank_inputs(builder)) is tuple)
        self.assertEqual(str(builder), EXAMPLE)
        for one, other in itertools.product((verdict, reach), ("x", None, 3, builder)):
            self.assertNotEqual(one, other)


if __name__ == "__main__":
    unittest.main()
