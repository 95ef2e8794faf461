"""Tables of cases, returned, changed and wrong ones (31)."""

import unittest

import tried
from emptyfilters.comparing import compare
from emptyfilters.errors import TooMany
from emptyfilters.judging import Reach, judge
from emptyfilters.looker import is_table
from made import BARE, LARGE, SMALL, built, error_of, limited

EXAMPLE = "for e in ids :\n  c |= id = e\nif me :\n  c &= owner = me\ntake c"
LIMIT = "id in ids and (owner = me or not given me)"
TEXTS = [built(EXAMPLE, SMALL), limited(LIMIT, SMALL)]


def replaced(thing, at, part):
    return (*thing[:at], part, *thing[at + 1:])


def without(thing, at):
    return (*thing[:at], *thing[at + 1:])


class Tables(unittest.TestCase):
    def setUp(self):
        self.table = judge(*TEXTS).cases

    def check(self, thing, wanted):
        self.assertIs(is_table(thing, TEXTS), wanted, thing)

    def test_returned_tables(self):
        self.assertEqual(len(self.table), 5)
        self.check(self.table, True)
        for row, options, lists in self.table:
            self.assertEqual([len(entry) for entry in lists], [3])
            self.assertEqual(len(options), 1)
            self.assertEqual(len(row), 2)
        self.assertIs(is_table(Reach(TEXTS[0]).cases, TEXTS[:1]), True)
        self.assertIs(is_table(compare(TEXTS[0], TEXTS[0]).cases, TEXTS[:1]), True)
        self.assertIs(is_table(self.table, tuple(TEXTS)), True)

    def test_more_and_in_another_order(self):
        self.check(self.table[::-1], True)
        self.check(self.table * 3, True)
        for at, (row, options, lists) in enumerate(self.table):
            entry = lists[0]
            self.check(replaced(self.table, at, (row, options, (entry[::-1],))), True)
            self.check(replaced(self.table, at, (row, options, ((*entry, *entry, (9, 9, 9), (0,) * 300),))), True)
            self.check((*self.table, (row, options, ((*entry, (4, 4)),))), True)
        # One more triple of a case, with more given options, or with another row.
        for triple, wanted in ((((5, 6), (0,), ((), (5,), (6,))), False), (((5, 6), (0,), (((), (5,), (6,)),)), True),
                               (((5, 6), (0,), (((), (5,)),)), False), (((5, 6), (None,), (((6,), (), (5,)),)), True),
                               (((5, 6), (None,), (((6,), (), (5, 5)),)), False)):
            self.check((*self.table, triple), wanted)

    def test_large_ones(self):
        """The integers may be any that fit."""
        far = 10 ** 199
        triples = tuple(((far, owner), options, (((), (far,), (3,)),)) for owner, options in (
            (-far, (None,)), (-far, (0,)), (-far, (-far,)), (-far, (1,)), (0, (0,))))
        self.check(triples, True)
        self.check(triples[1:], False)
        self.check(without(triples, 4), False)

    def test_something_left_out(self):
        self.check((), False)
        for at, (row, options, lists) in enumerate(self.table):
            self.check(without(self.table, at), False)
            for which in range(3):
                less = without(lists[0], which)
                self.check(replaced(self.table, at, (row, options, (less,))), False)
                self.check((*self.table, (row, options, (less,))), False)
            self.check(replaced(self.table, at, (row, options, ((),))), False)
            self.check(replaced(self.table, at, (row, options, ())), False)
            self.check(replaced(self.table, at, (row, options)), False)
            self.check(replaced(self.table, at, (row, options, lists, lists)), False)
            self.check(replaced(self.table, at, (row, (), lists)), False)
            self.check(replaced(self.table, at, (row[:1], options, lists)), False)
            self.check(replaced(self.table, at, ((), options, lists)), False)
            self.check(replaced(self.table, at, (row, (*options, None), lists)), False)
            self.check(replaced(self.table, at, ((*row, 3), options, lists)), False)
            self.check(replaced(self.table, at, (row, options, (*lists, ((),)))), False)

    def test_sequences_that_are_too_long(self):
        for at, (row, options, lists) in enumerate(self.table):
            for which, sequence in enumerate(lists[0]):
                if sequence:
                    longer = replaced(lists[0], which, sequence * 2)
                    self.check(replaced(self.table, at, (row, options, (longer,))), False)
                    self.check(replaced(self.table, at, (row, options, ((*longer, sequence),))), True)

    def test_more_given_options(self):
        """In a limit a missing option and one for which no test holds give the same."""
        texts = [limited("id = me", tried.COLUMNS)]
        missing, other, same = ((3, 4), (None,), ()), ((3, 4), (5,), ()), ((3, 4), (3,), ())
        for thing, wanted in (((missing, same), True), ((other, same), False), ((other, same, missing), True), ((same,), False),
                              ((missing,), False), ((missing, other, same), True)):
            self.assertIs(is_table(thing, texts), wanted, thing)

    def test_truth_values_and_lists(self):
        for at, (row, options, lists) in enumerate(self.table):
            entry = lists[0]
            for part in ((list(row), options, lists), (row, list(options), lists), (row, options, list(lists)),
                         (row, options, (list(entry),)), (row, options, ([*entry],)), (row, options, entry),
                         (row, options, tuple([list(one) for one in lists])), (row, options, ((*entry, [1]),)),
                         (row, options, ((*entry, (True,)),)), (row, options, ((*entry, (None,)),)),
                         (row, options, ((*entry, ((1,),)),)), (row, options, ((*entry, 1),)), (row, options, ((*entry, "1"),)),
                         (row, options, ((*entry, None),)), ((True, False), options, lists), ((row[0], True), options, lists),
                         (row, (False,), lists), (row, (True,), lists), (row, ("1",), lists), (row, ((),), lists),
                         (row, None, lists), (None, options, lists), (row, options, None), (row, options, "a"),
                         [row, options, lists], None, 3, "abc", True, (), row, (row,), ((None, None), options, lists)):
                self.check(replaced(self.table, at, part), False)
                self.check((*self.table, part), False)
        self.check(list(self.table), False)
        texts = [built("take every", BARE)]
        self.assertIs(is_table((((1, 0), (), ()),), texts), True)
        self.assertIs(is_table((((True, False), (), ()),), texts), False)
        texts = [built("take any e in ids : e = 1", SMALL)]
        for one, wanted in ((1, True), (True, False)):
            self.assertIs(is_table((((5, 5), (None,), (((), (one,), (0,)),)),), texts), wanted)

    def test_any_value(self):
        for thing in (None, True, False, 0, 3, "", "table", [], [[]], ((),), (((),),), ("abc",), (None,), [()], 10 ** 200,
                      ((((((((),),),),),),),), (1, 2, 3), ((1, 2), (3,), ((),)), list(self.table), str(self.table),
                      (((1, 2), (3,), (((),),)),), tuple(range(2000))):
            self.check(thing, False)


class Errors(unittest.TestCase):
    def test_errors_come_whatever_the_thing_is(self):
        numbers = built("take id = 1 | id = 2 | id = 3 | id = 4 | id = me | owner = you")
        cases = built("take " + " | ".join(f"{column} {sign} {number}" for column in ("id", "owner")
                                           for sign in ("=", "<") for number in (0, 3, 5)))
        choices = built("if xs or ys :\n  refuse\ntake id in xs | owner in xs | id in ys | owner in ys")
        other = limited("true", SMALL)
        table = judge(*TEXTS).cases
        for texts, error in (
            ([numbers, cases, other], ("WrongForm",)), ([numbers, cases, choices], ("TooMany", "numbers")),
            ([cases, choices], ("TooMany", "cases")), ([choices], ("TooMany", "choices")),
            ([choices, limited("id = owner or id != owner")], ("TooMany", "choices")), ([numbers], ("TooMany", "numbers")),
        ):
            for thing in (None, (), table, 3, [table], "x"):
                self.assertEqual(error_of(is_table, thing, texts), error)
                self.assertEqual(error_of(is_table, texts=texts, thing=thing), error)
        with self.assertRaises(TooMany):
            is_table((), [choices])

    def test_choices_in_some_case(self):
        """Twenty-five choices beside rows in which two columns differ, nine beside the others."""
        text = "if xs or ys :\n  refuse\ntake id in xs | owner in xs | id in ys | owner in ys"
        self.assertEqual(error_of(is_table, (), [built(text)]), ("TooMany", "choices"))
        less = "if xs :\n  refuse\ntake id in xs | owner in xs | id in ys | owner in ys"
        self.assertIs(is_table((), [built(less)]), False)
        self.assertIs(is_table(Reach(built(less)).cases, [built(less)]), True)


class Objects(unittest.TestCase):
    def test_arguments_stay(self):
        texts, table = list(TEXTS), judge(*TEXTS).cases
        self.assertIs(is_table(table, texts), True)
        self.assertEqual(texts, TEXTS)
        self.assertEqual(table, judge(*TEXTS).cases)


class AsItHappens(unittest.TestCase):
    def changed(self, chance, table):
        """A table with something replaced, put in or left out, of the right kinds."""
        at = chance.randrange(len(table))
        row, options, lists = table[at]
        draw = chance.random()
        integers = [*row, 0, 3, 5, -2]
        if draw < 0.1:
            return without(table, at)
        if draw < 0.25:
            return replaced(table, at, (tuple(chance.choice(integers) for _ in row), options, lists))
        if draw < 0.4 and options:
            return replaced(table, at, (row, tuple(chance.choice([None, *integers]) for _ in options), lists))
        if not lists:
            return (*table, table[at])
        which = chance.randrange(len(lists))
        entry = lists[which]
        more = tuple(chance.choice(integers) for _ in range(chance.choice([0, 1, 1, 2])))
        if draw < 0.6:
            entry = without(entry, chance.randrange(len(entry)))
        elif draw < 0.9:
            entry = replaced(entry, chance.randrange(len(entry)), more)
        else:
            entry = (*entry, more)
        return replaced(table, at, (row, options, replaced(lists, which, entry)))

    def test_changed_tables(self):
        found = []
        for makers in (["builder"], ["builder", "limit"], ["builder", "builder"]):
            some = tried.some_plains(31 + len(makers), makers)
            for _ in range(60):
                chance, _, texts, _ = next(some)
                if error_of(is_table, (), texts):
                    continue
                table = (judge if "limit" in makers else compare)(texts[0], texts[-1]).cases
                self.assertIs(is_table(table, texts), True)
                if len(table) <= 12:
                    for _ in range(4):
                        thing = self.changed(chance, table)
                        found.append(is_table(thing, texts))
                        self.assertIs(found[-1], tried.is_table(thing, texts), (texts, thing))
        self.assertGreater(found.count(True), 60)
        self.assertGreater(found.count(False), 60)

    def test_returned_tables_by_trying(self):
        for _, (_, _, texts, brute) in zip(range(150), tried.some_plains(310, ["builder", "limit"])):
            if error_of(is_table, (), texts):
                continue
            table = judge(*texts).cases
            marks = [brute.marks(row, options) for row, options, _ in table]
            self.assertEqual(len(set(marks)), len(marks))
            for row, options, lists in table:
                for name, entry in zip(brute.shape.lists, lists):
                    conducts = {brute.conduct(row, options, name, sequence, 3) for sequence in entry}
                    self.assertEqual(len(conducts), len(entry))


if __name__ == "__main__":
    unittest.main()
