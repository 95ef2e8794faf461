"""The promise of the whole: from the text of a builder to a store (3), and the general rules (2)."""

import random
import unittest

import chances
import tried
from emptyfilters.builders import Builder
from emptyfilters.comparing import compare
from emptyfilters.cases import Cases
from emptyfilters.conds import Cond
from emptyfilters.conducts import Conducts
from emptyfilters.deeds import Deed, Delete, Update
from emptyfilters.errors import Refused, TooManyRows
from emptyfilters.forms import Form
from emptyfilters.guards import least_guards
from emptyfilters.judging import Reach, blank_inputs, judge
from emptyfilters.limits import Limit
from emptyfilters.looker import is_table
from emptyfilters.stores import Store, attempt
from emptyfilters.tables import Table
from made import SHAPES, SMALL, built, error_of, form_of, limited, made

EXAMPLE = "for e in ids :\n  c |= id = e\nif me :\n  c &= owner = me\ntake c"
LIMIT = "id in ids and (owner = me or not given me)"

ROWS = [(one, other) for one in (0, 3, 7, 8, 9) for other in (0, 5, 6)]


class FromTextToStore(unittest.TestCase):
    def test_example(self):
        builder, table = built(EXAMPLE, SMALL), form_of(SMALL).table
        for inputs, taken in (
            ({"me": 5, "ids": [7, 8]}, [(7, 5), (8, 5)]), ({"me": 5}, [row for row in ROWS if row[1] == 5]), ({}, ROWS),
            ({"me": 0, "ids": [7]}, [(7, 0), (7, 5), (7, 6)]), ({"ids": []}, ROWS), ({"ids": [1], "me": 2}, []),
        ):
            store = Store(table, ROWS)
            self.assertEqual(store.do(Deed(builder(inputs))), taken)
            self.assertEqual(store.do(Delete(builder(inputs))), taken)
            self.assertEqual(store.listed(), [row for row in ROWS if row not in taken])
            store = Store(table, ROWS)
            self.assertEqual(store.do(Update(builder(inputs), {"owner": 1})), taken)
            self.assertEqual(store.listed(), [(row[0], 1) if row in taken else row for row in ROWS])
        store = Store(table, ROWS)
        self.assertEqual(error_of(store.do, Delete(builder({})), most=14), ("TooManyRows", 15, 14))
        with self.assertRaises(TooManyRows):
            attempt(store, [Delete(builder({"ids": [3]})), Delete(builder({}))], most=14)
        self.assertEqual(store.listed(), ROWS)

    def test_what_is_beyond_shows_in_a_store(self):
        builder, limit = built(EXAMPLE.replace("take", "guard take"), SMALL), limited(LIMIT, SMALL)
        row, options, lists = judge(builder, limit).beyond
        inputs = builder.form.inputs(options, lists)
        store = Store(builder.form.table, [row, (3, 10 ** 9)])
        self.assertIn(row, store.do(Delete(builder(inputs))))
        self.assertFalse(limit(row, inputs))
        (chosen,) = least_guards(built(EXAMPLE, SMALL), limited("id in ids or owner = me", SMALL)).sets
        guarded = built(EXAMPLE, SMALL).guarded(chosen)
        for inputs in ({}, {"me": 5}, {"ids": [7]}, {"me": 0}, {"me": 6, "ids": [3, 7]}):
            store = Store(builder.form.table, ROWS)
            for row in store.do(Delete(guarded(inputs))):
                self.assertTrue(limited("id in ids or owner = me", SMALL)(row, inputs))

    def test_as_it_happens(self):
        chance = random.Random(3)
        found = []
        for _ in range(500):
            shape = chance.choice(SHAPES)
            plain = chances.some_builder(chance, shape, chance.choice([[0], [0, 3], [2, 5]]))
            if error_of(made, plain):
                continue
            builder, table = made(plain), form_of(shape).table
            rows = [tuple(chance.choice([0, 1, 2, 3, 5, 9]) for _ in shape.columns) for _ in range(8)]
            options = tuple(chance.choice([None, 0, 2, 3]) for _ in shape.options)
            lists = tuple(tuple(chance.choice([0, 2, 3, 5]) for _ in range(chance.choice([0, 0, 1, 2]))) for _ in shape.lists)
            store = Store(table, rows)
            try:
                cond = builder(builder.form.inputs(options, lists))
            except Refused:
                self.assertTrue(plain.run(rows[0], options, lists)[0])
                continue
            values = [plain.run(row, options, lists)[1] for row in rows]
            # Whether it is blank does not hang on the row, and a blank condition takes every row.
            self.assertEqual({value is None for value in values}, {cond.is_blank})
            taken = [row for row, value in zip(rows, values) if value is not False]
            self.assertEqual(store.do(Delete(cond)), taken)
            self.assertEqual(store.listed(), [row for row, value in zip(rows, values) if value is False])
            found.append(len(taken))
        self.assertEqual(set(found), set(range(9)))


class Names(unittest.TestCase):
    """Names of columns, options, lists, elements and variables do not matter."""

    def setUp(self):
        self.texts = {"builder": EXAMPLE.replace("take", "guard take"), "limit": LIMIT}
        names = {"id": "owner", "owner": "id", "me": "ids", "ids": "me", "e": "c", "c": "abcdefgh"}
        self.names = {word: names.get(word, word) for text in self.texts.values() for word in text.split()}
        self.form = Form(Table(["owner", "id"]), options=["ids"], lists=["me"])

    def renamed(self, text):
        spaced = text.replace("(", "( ").replace(")", " )")
        return "\n".join(line[:len(line) - len(line.lstrip())] + " ".join(self.names.get(word, word) for word in line.split())
                         for line in spaced.split("\n"))

    def test_names_do_not_matter(self):
        one = built(self.texts["builder"], SMALL), limited(LIMIT, SMALL)
        other = Builder(self.renamed(self.texts["builder"]), self.form), Limit(self.renamed(LIMIT), self.form)
        for row in ROWS:
            for me, ids in ((None, []), (5, []), (0, [7, 8]), (6, [3]), (None, [9])):
                inputs, renamed = {"me": me, "ids": ids}, {"ids": me, "me": ids}
                self.assertEqual(one[0].takes(row, inputs), other[0].takes(row, renamed))
                self.assertEqual(one[0](inputs)(row), other[0](renamed)(row))
                self.assertEqual(one[1](row, inputs), other[1](row, renamed))
        first, second = judge(*one), judge(*other)
        self.assertEqual((first.size, len(first.cases)), (second.size, len(second.cases)))
        self.assertTrue(is_table(first.cases, list(other)))
        self.assertTrue(is_table(second.cases, list(one)))
        self.assertEqual(blank_inputs(one[0]), blank_inputs(other[0]))


class GeneralRules(unittest.TestCase):
    def test_equal_to_nothing_of_another_class(self):
        builder, limit = built("take every", SMALL), limited("true", SMALL)
        things = [builder, limit, builder.form, builder.form.table, builder({}), Cases([builder]), judge(builder, limit),
                  Conducts([builder], (1, 2), (None,)), Reach(builder), least_guards(builder, limit), compare(builder, builder),
                  Store(builder.form.table, []), Delete(builder({})), "take every", None, 0, (), []]
        for at, one in enumerate(things):
            for other in things[at + 1:]:
                self.assertFalse(one == other)
                self.assertTrue(one != other)

    def test_same_call_gives_equal_values(self):
        for _, (_, _, texts, _) in zip(range(40), tried.some_plains(2, ["builder", "limit"])):
            if not error_of(judge, *texts):
                for call in (lambda: judge(*texts).cases, lambda: judge(*texts).beyond, lambda: Cases(texts).each(),
                             lambda: Reach(texts[0]).cases, lambda: Reach(texts[0]).missed, lambda: blank_inputs(texts[0]),
                             lambda: compare(texts[0], texts[0]).cases):
                    self.assertEqual(call(), call())

    def test_lists_may_be_tuples(self):
        builder, limit = built(EXAMPLE, SMALL), limited(LIMIT, SMALL)
        texts = (builder, limit)
        self.assertEqual(Cases(texts).each(), Cases(list(texts)).each())
        self.assertTrue(is_table(judge(builder, limit).cases, texts))
        self.assertEqual(Conducts(texts, (1, 2), (3,)).shortest("ids"), Conducts(list(texts), (1, 2), (3,)).shortest("ids"))
        self.assertEqual(builder.guarded((1,)), builder.guarded([1]))

    def test_what_a_run_gives_is_a_condition_as_any_other(self):
        table = form_of(SMALL).table
        cond = built(EXAMPLE, SMALL)({"me": 5, "ids": [7]})
        self.assertEqual(cond & Cond("id = 3", table), Cond.none(table))
        self.assertIsNone(cond.row_beyond(Cond("id = 7", table)))
        self.assertIn(cond.row_beyond(Cond("id = 8", table)), cond)
        self.assertIsNotNone(cond.shown("owner"))
        self.assertEqual(Cond(str(cond), table), cond)
        kept = Delete(cond)
        cond |= Cond.every(table)
        self.assertFalse(kept.takes((3, 3)))
        self.assertEqual(Store(table, ROWS).do(kept), [(7, 5)])


if __name__ == "__main__":
    unittest.main()
