"""Runs of builders: conditions, rows that are taken, lines that are executed (18 to 22)."""

import random
import unittest

import chances
from emptyfilters.builders import Builder
from emptyfilters.conds import Cond
from emptyfilters.errors import BadInputs, Refused
from emptyfilters.forms import Form
from emptyfilters.tables import Table
from made import LARGE, SHAPES, SMALL, built, error_of, form_of, made

EXAMPLE = "for e in ids :\n  c |= id = e\nif me :\n  c &= owner = me\ntake c"

ROWS = [(one, other) for one in (-1, 0, 3, 4, 5, 7) for other in (0, 3, 5, 6)]


def of_parameter(question):
    """A question about e as one about p."""
    return " ".join("p" if word == "e" else word for word in question.split())


class Base(unittest.TestCase):
    def gives(self, text, inputs, wanted, shape=LARGE):
        """The run gives a condition that is equal to the one with a text, on all rows, and takes the same rows."""
        builder = built(text, shape)
        cond = builder(inputs)
        self.assertIs(type(cond), Cond)
        self.assertEqual(cond.table, form_of(shape).table)
        self.assertEqual(cond, Cond(wanted, cond.table), (text, inputs, cond))
        for row in ROWS:
            self.assertIs(builder.takes(row, inputs), row in Cond(wanted, cond.table), (text, inputs, row))

    def traced(self, text, inputs, shape=LARGE):
        return list(built(text, shape).trace(inputs))


class Expressions(Base):
    def test_words(self):
        for expr, wanted in (("blank", "blank"), ("every", "every"), ("none", "none"), ("~ blank", "blank"),
                             ("~ every", "none"), ("blank | none", "none"), ("none & blank", "none"),
                             ("c", "blank"), ("c | id = 3", "id = 3"), ("~ ( c & d )", "blank")):
            self.gives(f"take {expr}", {}, wanted)

    def test_tests(self):
        given = {"me": 3, "you": 5}
        for expr, wanted, missing in (
            ("id = 3", "id = 3", "id = 3"), ("id < 4 & owner >= 5", "id < 4 & owner >= 5", "id < 4 & owner >= 5"),
            ("id != owner", "id != owner", "id != owner"), ("id = me", "id = 3", "blank"),
            ("me = id", "id = 3", "blank"), ("id != you", "id != 5", "blank"), ("you != owner", "owner != 5", "blank"),
            ("me = 3", "every", "blank"), ("me != 3", "none", "blank"), ("me < 3", "none", "blank"),
            ("me <= 3", "every", "blank"), ("you > 3", "every", "blank"), ("you >= 6", "none", "blank"),
            ("~ me = 4", "every", "blank"), ("~ id = me", "id != 3", "blank"), ("me = 3 | id = 4", "every", "id = 4"),
            ("id = me & owner = you", "id = 3 & owner = 5", "blank"), ("id = 4 & owner = you", "id = 4 & owner = 5",
                                                                      "id = 4"),
            ("id = 4 | me != 3", "id = 4", "id = 4"), ("~ ( id = me | owner = 5 )", "id != 3 & owner != 5", "owner != 5"),
        ):
            self.gives(f"take {expr}", given, wanted)
            self.gives(f"take {expr}", {}, missing)
            self.gives(f"take {expr}", {"me": None, "you": None}, missing)
        self.gives("take id = me | owner = you", {"me": 3}, "id = 3")
        self.gives("take id = me | owner = you", {"you": 0}, "owner = 0")

    def test_in(self):
        for integers, wanted, denied in (
            ([], "none", "every"), ([3], "id = 3", "id != 3"), ((3, 3), "id = 3", "id != 3"),
            ([3, -1, 7], "id = 3 | id = -1 | id = 7", "~ ( id = 3 | id = -1 | id = 7 )"),
        ):
            self.gives("take id in xs", {"xs": integers}, wanted)
            self.gives("take ~ id in xs", {"xs": integers}, denied)
        self.gives("take id in xs | owner in ys", {"ys": [5]}, "owner = 5")
        self.gives("take id in xs & owner in ys", {"ys": [5]}, "none")

    def test_any_and_all(self):
        many = [3, 4]
        for expr, empty, one, two in (
            ("any e in xs : id = e", "blank", "id = 3", "id = 3 | id = 4"),
            ("all e in xs : id != e", "blank", "id != 3", "id != 3 & id != 4"),
            ("~ any e in xs : id = e", "blank", "id != 3", "id != 3 & id != 4"),
            ("owner = 5 & any e in xs : id = e", "owner = 5", "owner = 5 & id = 3", "owner = 5 & ( id = 3 | id = 4 )"),
            ("owner = 5 | all e in xs : id = e", "owner = 5", "owner = 5 | id = 3", "owner = 5"),
            ("any e in xs : blank", "blank", "blank", "blank"), ("all e in xs : every", "blank", "every", "every"),
            ("any e in xs : e > 3", "blank", "none", "every"), ("all e in xs : e > 3", "blank", "none", "none"),
            ("any e in xs : id = me", "blank", "blank", "blank"),
            ("any e in xs : ( id = e & owner != e )", "blank", "id = 3 & owner != 3",
             "id = 3 & owner != 3 | id = 4 & owner != 4"),
            ("any e in xs : pick ( e = 3 , blank , id = e )", "blank", "blank", "id = 4"),
            ("all e in xs : ~ id = e", "blank", "id != 3", "id != 3 & id != 4"),
        ):
            for integers, wanted in (([], empty), (many[:1], one), (many, two)):
                self.gives(f"take {expr}", {"xs": integers}, wanted)
        self.gives("take any e in xs : all f in ys : ( id = e & owner != f )", {"xs": [3, 4], "ys": [5, 6]},
                   "( id = 3 | id = 4 ) & owner != 5 & owner != 6")
        self.gives("take any e in xs : all f in ys : ( id = e & owner != f )", {"xs": [3, 4]}, "blank")
        self.gives("take all e in xs : owner in ys", {"xs": [3]}, "none")

    def test_pick(self):
        for question, inputs, holds in (
            ("me", {"me": 5}, True), ("me", {"me": 0}, False), ("me", {}, False), ("me", {"me": -1}, True),
            ("given me", {"me": 0}, True), ("given me", {}, False), ("given me", {"me": None}, False),
            ("not me", {}, True), ("not given me", {"me": 0}, False), ("xs", {"xs": []}, False), ("xs", {}, False),
            ("xs", {"xs": [0]}, True), ("not xs", {"xs": [1, 2]}, False), ("me = 3", {"me": 3}, True),
            ("me = 3", {"me": 4}, False), ("me = 3", {}, False), ("me != 3", {"me": 4}, True), ("me != 3", {}, False),
            ("not me = 3", {}, True), ("me < 3", {}, False), ("me < 3", {"me": 2}, True), ("me >= 3", {"me": 3}, True),
            ("me > 3", {"me": 3}, False), ("me <= 3", {"me": 3}, True), ("me = 0", {"me": 0}, True),
            ("me or you", {"you": 1}, True), ("me and you", {"you": 1}, False), ("c", {}, False), ("not c", {}, True),
            ("me or you and xs", {"me": 1}, True), ("( me or you ) and xs", {"me": 1}, False),
            ("not ( me or xs )", {}, True), ("not me and xs", {"xs": [1]}, True), ("not not me", {"me": 1}, True),
            ("me != 0", {"me": 0}, False), ("me >= -2 and me <= 2", {"me": -2}, True),
        ):
            self.gives(f"take pick ( {question} , id = 3 , owner = 5 )", inputs, "id = 3" if holds else "owner = 5")
            text = f"if {question} :\n  d = id = 3\nelse :\n  d = owner = 5\ntake d"
            self.gives(text, inputs, "id = 3" if holds else "owner = 5")
            self.assertEqual(self.traced(text, inputs), [0, 1, 4] if holds else [0, 3, 4])

    def test_questions_about_elements(self):
        for question, wanted in (("given e", "id = 0 | id = 3 | id = 4"), ("e", "id = 3 | id = 4"), ("not e", "id = 0"),
                                 ("e != 3", "id = 0 | id = 4"), ("e > 3", "id = 4"), ("e = 3 or not e", "id = 3 | id = 0"),
                                 ("me and e", "blank"), ("ys", "blank")):
            for text in (f"for e in xs :\n  if {question} :\n    c |= id = e\ntake c",
                         f"take any e in xs : pick ( {question} , id = e , blank )",
                         f"def f ( p ) : pick ( {of_parameter(question)} , id = p , blank )\ntake any e in xs : f ( e )"):
                self.gives(text, {"xs": [0, 3, 4]}, wanted)

    def test_calls(self):
        functions = "def f ( p ) : id = p\ndef g ( p , q ) : f ( p ) & owner = q | f ( me )\n"
        self.gives(f"{functions}take g ( you , me )", {"me": 3, "you": 5}, "id = 5 & owner = 3 | id = 3")
        self.gives(f"{functions}take g ( me , you )", {"you": 5}, "owner = 5")
        self.gives(f"{functions}take ~ g ( you , me )", {}, "blank")
        self.gives(f"{functions}take any e in xs : g ( e , e )", {"xs": [3, 4]}, "id = 3 & owner = 3 | id = 4 & owner = 4")
        self.gives(f"{functions}for e in xs :\n  c |= f ( e )\ntake c", {"xs": [3, 4]}, "id = 3 | id = 4")
        self.gives("def f ( p , q , r ) : id = r | owner = p & id != q\ntake f ( me , you , me )", {"me": 3, "you": 5},
                   "id = 3 | owner = 3 & id != 5")

    def test_elements_of_functions_are_their_own(self):
        text = "def f ( p ) : any e in ys : ( owner = e & id = p )\n"
        self.gives(f"{text}take any e in xs : f ( e )", {"xs": [3, 4], "ys": [5]}, "owner = 5 & ( id = 3 | id = 4 )")
        self.gives(f"{text}for e in xs :\n  c |= f ( e ) & id = e\ntake c", {"xs": [3], "ys": [5, 6]},
                   "id = 3 & ( owner = 5 | owner = 6 )")
        self.gives(f"{text}def g ( p ) : f ( p )\ntake any e in xs : ( g ( e ) & id = e )", {"xs": [3], "ys": [5]},
                   "owner = 5 & id = 3")


class Runs(Base):
    def test_example(self):
        self.gives(EXAMPLE, {"me": 5, "ids": [7, 8]}, "owner = 5 & ( id = 7 | id = 8 )", SMALL)
        self.gives(EXAMPLE, {"me": 5}, "owner = 5", SMALL)
        self.gives(EXAMPLE, {}, "blank", SMALL)
        self.gives(EXAMPLE, {"me": 0, "ids": [7]}, "id = 7", SMALL)
        self.assertEqual(self.traced(EXAMPLE, {"me": 5, "ids": [7, 8]}, SMALL), [0, 1, 1, 2, 3, 4])
        self.assertEqual(self.traced(EXAMPLE, {}, SMALL), [0, 2, 4])

    def test_variables(self):
        for text, wanted in (
            ("take c", "blank"), ("c = id = 3\ntake c", "id = 3"), ("c |= id = 3\ntake c", "id = 3"),
            ("c &= id = 3\ntake c", "id = 3"), ("c = every\nc = blank\ntake c", "blank"),
            ("c = id = 3\nc |= owner = 5\nc &= id != 4\ntake c", "( id = 3 | owner = 5 ) & id != 4"),
            ("c = id = 3\nd = c\nc |= owner = 5\ntake d", "id = 3"),
            ("c = id = 3\nd = c\nd &= owner = 5\ntake c", "id = 3"),
            ("c = id = 3\nc |= c\nc &= ~ c\ntake c", "none"), ("c |= blank\nc &= blank\ntake c", "blank"),
            ("c = id = 3\nc &= blank\nc |= d\ntake c", "id = 3"), ("c = id = 3\nd |= c\nk = d & c\ntake k | d", "id = 3"),
            ("c = id = 3\nc = ~ c\nc = ~ c & c\ntake c", "none"),
        ):
            self.gives(text, {}, wanted)

    def test_blankness_of_variables(self):
        text = "c |= id = me\nif c :\n  d = owner = 5\nelse :\n  d = owner = 6\ntake d"
        self.gives(text, {"me": 3}, "owner = 5")
        self.gives(text, {}, "owner = 6")
        text = "for e in xs :\n  if c :\n    c &= owner = e\n  else :\n    c = id = e\ntake c"
        self.gives(text, {"xs": [3, 5]}, "id = 3 & owner = 5")
        self.assertEqual(self.traced(text, {"xs": [3, 5]}), [0, 1, 4, 1, 2, 5])
        # `none` is not blank.
        self.assertEqual(self.traced("c = none\nif c :\n  refuse\ntake c", {}), [0, 1, 2])

    def test_guards(self):
        for text, given, missing in (
            ("guard c = id = me\ntake c", "id = 3", "none"), ("c = id = me\nguard take c", "id = 3", "none"),
            ("guard c |= id = me\ntake c", "id = 3", "none"), ("guard c &= id = me\ntake c", "id = 3", "none"),
            ("c = id = 4\nguard c |= id = me\ntake c", "id = 4 | id = 3", "id = 4"),
            ("c = id != 4\nguard c &= id = me\ntake c", "id = 3", "none"),
            ("c = id = 4\nguard c &= owner = you\nguard take c", "none", "none"),
            ("guard take ~ id = me", "id != 3", "none"), ("guard c = id = me\ntake ~ c", "id != 3", "every"),
            ("guard c = d\ntake c | id = me", "id = 3", "none"), ("guard take id = me | every", "every", "every"),
        ):
            self.gives(text, {"me": 3}, given)
            self.gives(text, {}, missing)

    def test_break_and_skip(self):
        text = "for e in xs :\n  if e = 3 :\n    {}\n  c |= id = e\ntake c"
        inputs = {"xs": [5, 3, 7]}
        self.gives(text.format("break"), inputs, "id = 5")
        self.gives(text.format("skip"), inputs, "id = 5 | id = 7")
        self.assertEqual(self.traced(text.format("break"), inputs), [0, 1, 3, 1, 2, 4])
        self.assertEqual(self.traced(text.format("skip"), inputs), [0, 1, 3, 1, 2, 1, 3, 4])
        text = "for e in xs :\n  for f in ys :\n    if f = 3 :\n      {}\n    c |= owner = f\n  c |= id = e\ntake c"
        inputs = {"xs": [3, 5], "ys": [0, 3, 6]}
        self.gives(text.format("break"), inputs, "owner = 0 | id = 3 | id = 5")
        self.gives(text.format("skip"), inputs, "owner = 0 | owner = 6 | id = 3 | id = 5")
        self.assertEqual(self.traced(text.format("break"), inputs),
                         [0, 1, 2, 4, 2, 3, 5, 1, 2, 4, 2, 3, 5, 6])
        text = "for e in xs :\n  break\n  c = every\nfor e in xs :\n  skip\n  c = every\ntake c"
        self.gives(text, {"xs": [1, 2]}, "blank")
        self.assertEqual(self.traced(text, {"xs": [1, 2]}), [0, 1, 3, 4, 4, 6])

    def test_refuse(self):
        text = "for e in xs :\n  c |= id = e\n  if e = 3 :\n    refuse\nif not c :\n  refuse\n  c = c\ntake c"
        builder = built(text)
        for inputs, line, trace in (({"xs": [5, 3, 7]}, 3, [0, 1, 2, 1, 2, 3]), ({}, 5, [0, 4, 5])):
            self.assertEqual(error_of(builder, inputs), ("Refused", line))
            self.assertEqual(error_of(lambda: builder.run(**inputs)), ("Refused", line))
            self.assertIs(builder.takes((3, 3), inputs), False)
            self.assertIs(builder.takes((5, 5), inputs), False)
            self.assertEqual(list(builder.trace(inputs)), trace)
        self.gives(text, {"xs": [5]}, "id = 5")
        text = "for e in xs :\n  for f in ys :\n    if f = 3 :\n      refuse\ntake every"
        self.assertEqual(error_of(built(text), {"xs": [1], "ys": [1, 3]}), ("Refused", 3))
        self.gives(text, {"ys": [3]}, "every")
        self.assertEqual(error_of(built("refuse\ntake every"), {}), ("Refused", 0))
        with self.assertRaises(Refused) as caught:
            built("c = every\nif c :\n  refuse\ntake c")({})
        self.assertEqual(caught.exception.line, 2)

    def test_trace(self):
        for text, inputs, wanted in (
            ("take every", {}, [0]), ("def f ( p ) : id = p\nc = f ( me )\ntake c", {}, [1, 2]),
            ("if me :\n  c = c\nelse :\n  if you :\n    c = c\n  c = c\ntake c", {"you": 1}, [0, 3, 4, 5, 6]),
            ("if me :\n  c = c\nelse :\n  if you :\n    c = c\n  c = c\ntake c", {"me": 1}, [0, 1, 6]),
            ("if me :\n  c = c\ntake c", {}, [0, 2]), ("for e in xs :\n  c = c\n  c = c\ntake c", {"xs": [0, 0]},
                                                      [0, 1, 2, 1, 2, 3]),
            ("for e in xs :\n  for f in ys :\n    c = c\ntake c", {"xs": [1, 2], "ys": [1]}, [0, 1, 2, 1, 2, 3]),
            ("for e in xs :\n  for f in ys :\n    c = c\ntake c", {"xs": [1, 2]}, [0, 1, 1, 3]),
            ("refuse\ntake c", {}, [0]), ("for e in xs :\n  refuse\ntake c", {"xs": [4, 5]}, [0, 1]),
        ):
            self.assertEqual(self.traced(text, inputs), wanted, text)

    def test_trace_is_a_generator(self):
        builder = built("for e in xs :\n  c |= id = e\ntake c")
        trace = builder.trace({"xs": [1, 2]})
        self.assertEqual([next(trace), next(trace)], [0, 1])
        other = builder.trace(inputs={"xs": []})
        self.assertEqual(list(other), [0, 2])
        self.assertEqual(list(trace), [1, 2])
        self.assertIsNone(next(trace, None))
        wrong = builder.trace({"zs": 3})
        self.assertEqual(error_of(next, wrong), ("BadInputs", "zs"))
        self.assertEqual(next(builder.trace({})), 0)


class Inputs(Base):
    def test_bad_inputs(self):
        builder = built("take every")
        for inputs, name in (({"zs": 3}, "zs"), ({"me": True}, "me"), ({"me": "3"}, "me"), ({"xs": 3}, "xs"),
                             ({"xs": None}, "xs"), ({"xs": [3, None]}, "xs"), ({"xs": [True]}, "xs"), ({"id": 3}, "id"),
                             ({"you": [], "me": []}, "me"), ({"xs": "", "b": 3}, "b"), ({"me": [3]}, "me"),
                             ({"c": 3}, "c"), ({"ys": {}}, "ys")):
            for call in (builder, lambda given: builder.run(**given), lambda given: builder.takes((3, 3), given),
                         lambda given: list(builder.trace(given))):
                self.assertEqual(error_of(call, inputs), ("BadInputs", name), inputs)
        # It comes ahead of the run.
        self.assertEqual(error_of(built("refuse\ntake every"), {"me": "x"}), ("BadInputs", "me"))
        self.assertEqual(error_of(built("refuse\ntake every").takes, (1, 1), {"me": "x"}), ("BadInputs", "me"))
        with self.assertRaises(BadInputs):
            builder.trace({"me": "x"}).__next__()

    def test_keywords(self):
        builder = built(EXAMPLE, SMALL)
        self.assertEqual(builder.run(me=5, ids=[7, 8]), builder({"ids": (7, 8), "me": 5}))
        self.assertEqual(builder.run(), builder({}))
        self.assertEqual(builder.run(me=None), builder({"me": None, "ids": ()}))
        form = Form(Table(["row"]), options=["inputs", "text"], lists=["form", "lines"])
        builder = Builder("take row = inputs | row in form", form)
        self.assertEqual(builder.run(inputs=3, form=[4]), Cond("row = 3 | row = 4", form.table))
        self.assertTrue(builder.takes(row=(3,), inputs={"inputs": 3}))
        self.assertEqual(builder(inputs={"inputs": 3}), Cond("row = 3", form.table))

    def test_arguments_stay_and_results_are_new(self):
        builder = built(EXAMPLE, SMALL)
        inputs = {"ids": [7, 8], "me": 5}
        cond = builder(inputs)
        builder.takes((7, 5), inputs)
        list(builder.trace(inputs))
        self.assertEqual(inputs, {"ids": [7, 8], "me": 5})
        inputs["ids"].append(9)
        self.assertEqual(cond, Cond("owner = 5 & ( id = 7 | id = 8 )", cond.table))
        cond |= Cond.every(cond.table)
        self.assertEqual(builder({"me": 5}), Cond("owner = 5", cond.table))
        blank = built("take c")
        changed = blank({})
        changed &= Cond.none(changed.table)
        self.assertTrue(blank({}).is_blank)
        self.assertIsNot(builder(inputs), builder(inputs))
        options, lists = ["me"], ["ids"]
        form = Form(Table(["id", "owner"]), options=options, lists=lists)
        builder = Builder(EXAMPLE, form)
        options.append("you")
        lists.clear()
        self.assertEqual(builder({"ids": [7]}), Cond("id = 7", form.table))


class Long(Base):
    def test_long_lists(self):
        many = list(range(2000))
        builder = built("for e in xs :\n  c |= id = e\ntake c")
        cond = builder({"xs": many})
        self.assertEqual([cond((1999, 0)), cond((2000, 0)), cond((0, 0))], [True, False, True])
        self.assertTrue(builder.takes((1999, 0), {"xs": many}))
        self.assertFalse(builder.takes((2000, 0), {"xs": many}))
        self.assertEqual(len(list(builder.trace({"xs": many}))), 2002)
        for text in ("take id in xs", "take any e in xs : id = e", "take ~ all e in xs : id != e"):
            builder = built(text)
            self.assertTrue(builder.takes((1999, 0), {"xs": many}))
            self.assertFalse(builder.takes((-1, 0), {"xs": many}))
            self.assertIn((1999, 0), builder({"xs": many}))
            self.assertNotIn((-1, 0), builder({"xs": many}))

    def test_doubling(self):
        builder = built("c = id != -1\nfor e in xs :\n  c |= c & id = e\n  c &= c | owner = e\ntake c")
        many = {"xs": list(range(2000))}
        self.assertTrue(builder.takes((5, 5), many))
        self.assertFalse(builder.takes((-1, 5), many))
        self.assertEqual(len(list(builder.trace(many))), 2 + 2 * 2000 + 1)
        builder = built("for e in xs :\n  c |= c & id = e\n  if not c :\n    refuse\ntake c")
        self.assertTrue(builder.takes((0, 5), many))
        self.assertFalse(builder.takes((-1, 5), many))
        self.assertEqual(len(list(builder.trace(many))), 1 + 2 * 2000 + 1)
        builder = built("c = id = 7\nfor e in xs :\n  c = ~ ( c & c ) | ~ ( c | c )\ntake c")
        self.assertTrue(builder.takes((7, 5), {"xs": [0] * 2000}))
        self.assertFalse(builder.takes((7, 5), {"xs": [0] * 1999}))

    def test_many_lines_and_tests(self):
        builder = built("for e in xs :\n  for f in ys :\n    c |= id = e & owner = f\ntake c")
        inputs = {"xs": list(range(100)), "ys": list(range(99))}
        self.assertTrue(builder.takes((99, 98), inputs))
        self.assertFalse(builder.takes((99, 99), inputs))
        builder = built("take any e in xs : any f in ys : ( id = e & owner = f )")
        self.assertTrue(builder.takes((99, 98), inputs))
        self.assertFalse(builder.takes((99, 99), inputs))

    def test_deep_conditions(self):
        builder = built("for e in xs :\n  c = ~ c\n  if not c :\n    c = id = 3\ntake c")
        cond = builder({"xs": [0] * 1600})
        self.assertEqual(cond, Cond("id != 3", cond.table))
        cond = built("for e in xs :\n  c = ( c | id = e ) & owner != e\ntake c")({"xs": list(range(1200))})
        self.assertEqual([cond((1199, 5)), cond((1199, 1199)), cond((5, 1300))], [True, False, True])

    def test_functions_of_functions(self):
        names = [f"f{letter}" for letter in "abcdefghijklmnopqrstuvwxyz"]
        lines = ["def fa ( p ) : id = p"]
        for before, name in zip(names, names[1:]):
            lines.append(f"def {name} ( q ) : {before} ( q )" if len(lines) % 2 else f"def {name} ( q ) : ~ {before} ( q )")
        text = "\n".join([*lines, "take fz ( me )"])
        self.gives(text, {"me": 3}, "id = 3")
        self.gives(text, {}, "blank")

    def test_large_integers(self):
        large = 10 ** 199
        builder = built("for e in xs :\n  c |= id = e\nif me > 999999999999999999999999999999 :\n  c &= owner = me\ntake c")
        self.assertTrue(builder.takes((-large, large), {"xs": [-large], "me": large}))
        self.assertFalse(builder.takes((-large, large + 1), {"xs": [-large], "me": large}))


class AsItHappens(unittest.TestCase):
    def test_runs(self):
        chance = random.Random(18)
        found = {"refused": 0, "blank": 0, "other": 0}
        integers = [0, 1, 2, 3, 4, 5, -4, 7]
        for _ in range(2500):
            shape = chance.choice(SHAPES)
            plain = chances.some_builder(chance, shape, chance.choice([[0], [0, 3], [0, 2, 5], [1, -4]]))
            if error_of(made, plain) == ("TooMany", "parts"):
                continue
            builder, form = made(plain), form_of(shape)
            self.assertEqual(str(builder), plain.text)
            for _ in range(6):
                row = tuple(chance.choice(integers) for _ in shape.columns)
                options = tuple(chance.choice([None, *integers]) for _ in shape.options)
                lists = tuple(tuple(chance.choice(integers) for _ in range(chance.choice([0, 0, 1, 2, 3])))
                              for _ in shape.lists)
                inputs = form.inputs(options, lists)
                refused, value, trace = plain.run(row, options, lists)
                self.assertEqual(list(builder.trace(inputs)), trace, (plain.text, inputs))
                self.assertIs(builder.takes(row, inputs), not refused and value is not False, (plain.text, inputs, row))
                if refused:
                    self.assertEqual(error_of(builder, inputs), ("Refused", trace[-1]))
                else:
                    self.assertIs(builder(inputs)(row), value, (plain.text, inputs, row))
                found["refused" if refused else "blank" if value is None else "other"] += 1
        self.assertTrue(all(many > 800 for many in found.values()), found)


if __name__ == "__main__":
    unittest.main()
