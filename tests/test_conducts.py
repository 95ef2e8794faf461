"""Conducts: sequences that texts cannot tell apart beside a row and options (28 to 30)."""

import itertools
import random
import unittest

import chances
from brute import Brute
from emptyfilters.conducts import Conducts
from emptyfilters.errors import TooMany
from made import BARE, LARGE, LISTS, ONE, OPTIONS, SHAPES, SMALL, built, error_of, limited, made

EXAMPLE = "for e in ids :\n  c |= id = e\nif me :\n  c &= owner = me\ntake c"

# Beside the row (1, 2): four, five and eight conducts of a list, and three of one.
FIVE = "if xs :\n  refuse\ntake id in xs | owner in xs"
EIGHT = "id in xs and owner in xs and any e in xs : e = 3"
THREE = "take any e in ys : id = e"


class Counts(unittest.TestCase):
    def check(self, texts, row, options, name, lengths, groups=()):
        """There are conducts with shortest sequences of these lengths; in each group all have one conduct."""
        conducts = Conducts(texts, row, options)
        shortest = conducts.shortest(name)
        self.assertEqual([len(sequence) for sequence in shortest], lengths, texts)
        for at, group in enumerate(groups):
            for sequence in group:
                self.assertTrue(conducts.same(name, group[0], sequence), (at, sequence))
                self.assertEqual(conducts.least(name, sequence), conducts.least(name, group[0]))
            for other in groups[:at]:
                self.assertFalse(conducts.same(name, group[0], other[0]), (group, other))
        if groups:
            self.assertEqual(len(groups), len(shortest))
        return conducts

    def test_example(self):
        builder = built(EXAMPLE, SMALL)
        groups = [[(), []], [(0,), (1, 2, 3), [5, 5]], [(7,), (0, 7), (7, 0), [7] * 200, (7, 7)]]
        conducts = self.check([builder], (7, 5), (5,), "ids", [0, 1, 1], groups)
        self.assertEqual(len(conducts), 3)
        self.assertEqual(conducts.shortest("ids")[0], ())
        self.assertEqual({conducts.shortest("ids")[1] == (7,), conducts.shortest("ids")[2] == (7,)}, {True, False})

    def test_asks_that_are_questions_or_in(self):
        for text, row, lengths, groups in (
            ("take every", (3,), [0], [[(), (1,), (3, 3)]]), ("take id in xs", (3,), [0, 1], [[(), (1, 2)], [(3,), (1, 3, 1)]]),
            ("if xs :\n  refuse\ntake every", (3,), [0, 1], [[()], [(1,), (3, 3)]]),
            ("take pick ( not xs , id in xs , none )", (3,), [0, 1, 1], [[()], [(1,), (2, 2)], [(3,), (3, 1)]]),
            ("refuse\nc = id in xs\ntake c", (3,), [0, 1], [[(), (1,)], [(3,), (3, 1)]]),
        ):
            self.check([built(text, ONE)], row, (None,), "xs", lengths, groups)

    def test_any_and_all(self):
        for expr, lengths, groups in (
            ("any e in xs : id = e", [0, 1, 1], [[()], [(1,), (1, 2)], [(3,), (1, 3), (3, 1)]]),
            ("all e in xs : id = e", [0, 1, 1], [[()], [(3,), (3, 3)], [(1,), (3, 1), (1, 3)]]),
            ("any e in xs : blank", [0], [[(), (1, 3)]]), ("any e in xs : id = me", [0], [[(), (1, 3)]]),
            ("any e in xs : every", [0, 1], [[()], [(1,), (3,)]]),
            ("any e in xs : pick ( e = 0 , blank , id = e )", [0, 1, 1], [[(), (0, 0)], [(1, 0), (0, 1)], [(3, 1)]]),
            ("any e in xs : id = e & all e in xs : id = e", [0, 1, 1, 2], [[()], [(1, 2)], [(3, 3)], [(3, 1), (1, 3)]]),
        ):
            self.check([built(f"take {expr}", ONE)], (3,), (None,), "xs", lengths, groups)

    def test_limits(self):
        for text, lengths, groups in (
            ("any e in xs : id = e", [0, 1], [[(), (1,), (1, 2)], [(3,), (1, 3)]]),
            ("all e in xs : id = e", [0, 1], [[(), (3,)], [(1,), (3, 1), (1, 3)]]),
            ("id in xs or any e in xs : e = 0", [0, 1, 1, 2], [[(), (1,)], [(0, 0)], [(3, 3)], [(0, 3), (3, 0)]]),
            ("any e in xs : id = me", [0], [[(), (1, 3)]]), ("any e in xs : true", [0, 1], [[()], [(1,), (3,)]]),
            ("true", [0], [[(), (3,)]]),
        ):
            self.check([limited(text, ONE)], (3,), (None,), "xs", lengths, groups)
        # In a builder `any` without elements is blank, and in a limit it does not hold.
        both = [limited("any e in xs : id = e", ONE), built("take any e in xs : id = e", ONE)]
        self.check(both, (3,), (None,), "xs", [0, 1, 1])

    def test_for(self):
        for block, lengths, groups in (
            ("  c = c", [0], [[(), (1, 3)]]), ("  skip", [0], [[(), (1, 3)]]), ("  c = every", [0, 1], [[()], [(1,), (3, 3)]]),
            ("  break", [0, 1], [[()], [(1,), (3, 3)]]), ("  refuse", [0, 1], [[()], [(1,), (3, 3)]]),
            ("  if e :\n    break", [0, 1], [[(), (0,)], [(1,), (0, 1), (1, 0)]]),
            ("  if e :\n    break\n  refuse", [0, 1, 1], [[()], [(0,), (0, 1), (0, 0)], [(1,), (1, 0)]]),
            ("  c = ~ c", [0, 1], [[(), (1, 1)], [(1,), (1, 2, 3)]]),
            ("  c = id = e", [0, 1, 1], [[()], [(1,), (3, 1)], [(3,), (1, 3)]]),
            ("  c &= id = e", [0, 1, 1], [[()], [(1,), (3, 1), (1, 3)], [(3,), (3, 3)]]),
            # Nothing hangs on the variable behind the walk, but how the walk goes does.
            ("  if c :\n    break\n  c = every", [0, 1, 2], [[()], [(1,)], [(1, 2), (1, 2, 3)]]),
            ("  if c :\n    refuse\n  c = every", [0, 1, 2], [[()], [(1,)], [(1, 2), (3, 2, 1)]]),
            # `none`, and then `every` and `break`, is as `every` and `break` alone.
            ("  if e = 0 :\n    c = every\n    break\n  c = none", [0, 1, 1],
             [[()], [(0,), (0, 1), (1, 0), (3, 0, 3)], [(1,), (2, 3)]]),
        ):
            text = f"for e in xs :\n{block}\ntake c"
            self.check([built(text, ONE)], (3,), (None,), "xs", lengths, groups)

    def test_for_counts_from_each_value_of_its_variable(self):
        # Ahead of the walk c is always blank, and yet (1,) and (1, 1) differ for c = true or false.
        text = "for e in xs :\n  if c :\n    c = ~ c\ntake every"
        self.check([built(text, ONE)], (3,), (None,), "xs", [0, 1], [[(), (1, 1)], [(1,), (2, 3, 4)]])

    def test_each_value_at_the_beginning_counts(self):
        for block, lengths, groups in (
            # Only from true, only from false, only from blank.
            ("  if c :\n    c &= id = e", [0, 1], [[(), (3,), (3, 3)], [(1,), (3, 1), (1, 3)]]),
            ("  if c :\n    c |= id = e", [0, 1], [[(), (1,), (1, 2)], [(3,), (3, 1), (1, 3)]]),
            ("  if not c :\n    c = id = e", [0, 1, 1], [[()], [(1,), (1, 3)], [(3,), (3, 1)]]),
        ):
            self.check([built(f"for e in xs :\n{block}\ntake every", ONE)], (3,), (None,), "xs", lengths, groups)

    def test_places_where_no_run_comes(self):
        text = "if me and not me :\n  for e in xs :\n    c |= id = e\n  c = id in xs\ntake every"
        self.check([built(text, ONE)], (3,), (None,), "xs", [0, 1, 1])
        text = "def f ( p ) : any e in xs : ( id = e & p = 3 )\n"
        self.check([built(f"{text}take every", ONE)], (3,), (3,), "xs", [0])
        self.check([built(f"{text}take f ( me )", ONE)], (3,), (3,), "xs", [0, 1, 1])
        self.check([built(f"{text}take f ( me )", ONE)], (3,), (0,), "xs", [0, 1])
        self.check([built(f"{text}take pick ( me and not me , f ( me ) , every )", ONE)], (3,), (3,), "xs", [0, 1, 1])

    def test_several_texts(self):
        texts = [built("take id in xs", LARGE), limited("owner in xs"), built("if ys :\n  refuse\ntake every")]
        conducts = self.check(texts, (1, 2), (None, None), "xs", [0, 1, 1, 2],
                              [[(), (3,)], [(1,), (3, 1, 1)], [(2, 2)], [(1, 2), (2, 3, 1)]])
        self.check(texts, (1, 2), (None, None), "ys", [0, 1])
        self.check(texts, (1, 1), (None, None), "xs", [0, 1])
        self.assertEqual(len(conducts), 8)

    def test_rows_and_options(self):
        builder = built("take any e in ids : ( id = e & owner = me ) | any e in ids : owner = e", SMALL)
        for row, options, many in (((1, 2), (2,), 5), ((1, 1), (1,), 3), ((1, 2), (1,), 3), ((1, 2), (None,), 5)):
            self.assertEqual(len(Conducts([builder], row, options)), many, (row, options))

    def test_without_lists(self):
        for texts, row, options in (([built("take every", BARE)], (3, 4), ()), ([limited("true", BARE)], (3, 4), ()),
                                    ([built("take id = me & id = you", OPTIONS)], (3,), (3, None))):
            self.assertEqual(len(Conducts(texts, row, options)), 1)


class TwoLists(unittest.TestCase):
    def lengths(self, text, row=(3,)):
        conducts = Conducts([built(text, LISTS)], row, ())
        return [[len(sequence) for sequence in conducts.shortest(name)] for name in ("xs", "ys")]

    def test_asks_inside_walks(self):
        for text, xs, ys in (
            # For each element: is id in ys? The walk over xs gives then the same, for each ys.
            ("take any e in xs : id in ys", [0, 1], [0, 1]),
            ("take any e in xs : pick ( e , id in ys , blank )", [0, 1], [0, 1]),
            # An ask inside tells sequences apart for each element, also for one that no run has there.
            ("take any e in xs : any f in ys : ( id = e & f = 0 )", [0, 1, 1], [0, 1, 1]),
            ("take any e in xs : pick ( e , every , every )", [0, 1], [0]),
            ("for e in xs :\n  for f in ys :\n    if f :\n      break\n  c = c\ntake c", [0], [0, 1]),
            ("for e in xs :\n  for f in ys :\n    if f :\n      refuse\ntake c", [0, 1], [0, 1]),
            ("for e in xs :\n  if ys :\n    refuse\ntake c", [0, 1], [0, 1]),
            ("for e in xs :\n  for f in ys :\n    c = ~ c\ntake c", [0, 1], [0, 1]),
        ):
            self.assertEqual(self.lengths(text), [xs, ys], text)

    def test_walks_differ_for_some_other_list(self):
        # Without ys the walk over xs does nothing; with it (1,) and (1, 1) differ.
        conducts = Conducts([built("for e in xs :\n  for f in ys :\n    c = ~ c\ntake c", LISTS)], (3,), ())
        self.assertFalse(conducts.same("xs", (), (1,)))
        self.assertTrue(conducts.same("xs", (), (1, 1)))
        self.assertTrue(conducts.same("ys", (1,), (2, 3, 4)))
        self.assertFalse(conducts.same("ys", (1,), (2, 3)))
        self.assertEqual(len(conducts), 4)

    def test_elements_of_the_walk_around(self):
        text = "for e in xs :\n  for f in ys :\n    c |= pick ( e , id = f , every )\ntake c"
        conducts = Conducts([built(text, LISTS)], (3,), ())
        self.assertEqual([conducts.same("ys", one, other) for one, other in (
            ((), (0,)), ((0,), (1, 2)), ((3,), (0,)), ((3,), (0, 3)))], [False, True, False, True])
        self.assertEqual([conducts.same("xs", one, other) for one, other in (
            ((0,), (1,)), ((1,), (2, 3)), ((), (1,)), ((0, 1), (1, 0)), ((0,), (0, 1)))], [False, True, False, True, True])


class TooManyChoices(unittest.TestCase):
    def test_choices(self):
        four = "take id in ys | owner in ys"
        for texts, many in (
            ([built(FIVE), built(four)], 20), ([built(FIVE), built(FIVE.replace("xs", "ys"))], 25),
            ([limited(EIGHT), built(THREE)], 24), ([limited(EIGHT), built(four)], 32),
        ):
            error = error_of(Conducts, texts, (1, 2), (None, None))
            self.assertEqual(error, None if many <= 24 else ("TooMany", "choices"))
            if many <= 24:
                self.assertEqual(len(Conducts(texts, (1, 2), (None, None))), many)
            # Beside (1, 1) fewer integers differ.
            self.assertIsNone(error_of(Conducts, texts, (1, 1), (None, None)))

    def test_one_list(self):
        bits = ["id in xs", "owner in xs", "any e in xs : e = 3", "any e in xs : e = 9", "any e in xs : e = -9"]
        for many in range(6):
            texts = [limited(" or ".join(["true", *bits[:many]]))]
            if many < 5:
                self.assertEqual(len(Conducts(texts, (1, 2), (None, None))), 2 ** many)
            else:
                self.assertEqual(error_of(Conducts, texts, (1, 2), (None, None)), ("TooMany", "choices"))

    def test_errors_in_order(self):
        many = built("take id = 1 | id = 2 | id = 3 | id = 4")
        self.assertEqual(error_of(Conducts, [many, limited("true", SMALL)], (1, 2), (1, 2)), ("WrongForm",))
        texts = [many, built(FIVE), built(FIVE.replace("xs", "ys"))]
        self.assertEqual(error_of(Conducts, texts, (1, 2), (1, 2)), ("TooMany", "numbers"))
        with self.assertRaises(TooMany) as caught:
            Conducts(texts[1:], (1, 2), (1, 2))
        self.assertEqual(caught.exception.what, "choices")
        # However many cases there are.
        cases = " & ".join(f"{column} {sign} {number}" for column in ("id", "owner") for sign in ("=", "<")
                           for number in (0, 3, 5))
        self.assertEqual(len(Conducts([built(f"take {cases} & id = me & owner = you")], (1, 2), (1, 2))), 1)


class AsItHappens(unittest.TestCase):
    def setUp(self):
        self.chance = random.Random(28)

    def some_texts(self, shape):
        numbers = self.chance.choice([[0], [0, 3], [3, 5]])
        while True:
            plains = [chances.some_builder(self.chance, shape, numbers, 2) if self.chance.random() < 0.7
                      else chances.some_limit(self.chance, shape, numbers, 1)
                      for _ in range(self.chance.choice([1, 1, 2, 3]))]
            if not any(error_of(made, plain) for plain in plains):
                return plains

    def some_pair(self, shape):
        row = tuple(self.chance.choice([0, 1, 2, 3, 4, 9]) for _ in shape.columns)
        return row, tuple(self.chance.choice([None, 0, 1, 3, 9]) for _ in shape.options)

    def some_sequence(self, brute, row, longest=4):
        integers = brute.wide(row)
        return tuple(self.chance.choice(integers) for _ in range(self.chance.randint(0, longest)))

    def many_by_trying(self, brute, row, options, name):
        """How many conducts there are, as far as others of three integers tell them apart; 25 for more."""
        letters = brute.letters(row, name).values()
        known, waiting = {brute.conduct(row, options, name, (), 3): ()}, [()]
        while waiting and len(known) <= 24:
            sequence = waiting.pop(0)
            for integer in letters:
                mark = brute.conduct(row, options, name, (*sequence, integer), 3)
                if mark not in known:
                    known[mark] = (*sequence, integer)
                    waiting.append(known[mark])
        return min(len(known), 25)

    def test_conducts(self):
        found = []
        while len(found) < 500:
            shape = self.chance.choice(SHAPES[:6])
            plains = self.some_texts(shape)
            brute, (row, options) = Brute(plains), self.some_pair(shape)
            texts = [made(plain) for plain in plains]
            error = error_of(Conducts, texts, row, options)
            if error == ("TooMany", "numbers"):
                self.assertGreater(len(brute.numbers), 4)
            elif error:
                many = 1
                for name in shape.lists:
                    many *= self.many_by_trying(brute, row, options, name)
                self.assertGreater(many, 24, [plain.text for plain in plains])
                found.append(25)
            else:
                found.append(self.look_at(Conducts(texts, row, options), brute, row, options))
        self.assertGreater(len(set(found)), 12)
        self.assertGreater(found.count(25), 2)

    def look_at(self, conducts, brute, row, options):
        many = 1
        for name in brute.shape.lists:
            shortest = conducts.shortest(name)
            many *= len(shortest)
            self.assertEqual([len(one) for one in shortest], sorted(len(one) for one in shortest))
            self.assertEqual(len({brute.conduct(row, options, name, one, 3) for one in shortest}), len(shortest))
            for _ in range(4):
                one, other = self.some_sequence(brute, row), self.some_sequence(brute, row)
                least = conducts.least(name, list(one))
                self.assertIn(least, shortest)
                self.assertLessEqual(len(least), len(one))
                mark = brute.conduct(row, options, name, one, 3)
                self.assertEqual(brute.conduct(row, options, name, least, 3), mark)
                self.assertTrue(conducts.same(name, one, least))
                self.assertIs(conducts.same(name, one, list(other)),
                              brute.conduct(row, options, name, other, 3) == mark)
            for one in shortest:
                if len(one) == 2:
                    for shorter in brute.sequences(row, name, 1):
                        self.assertNotEqual(conducts.least(name, shorter), one)
        self.assertEqual(len(conducts), many)
        return many

    def test_sequences_of_one_conduct_settle_runs_and_limits_alike(self):
        differing = 0
        for _ in range(250):
            shape = self.chance.choice([LARGE, ONE, LISTS, SMALL])
            plains = self.some_texts(shape)
            (row, options), texts = self.some_pair(shape), [made(plain) for plain in plains]
            if error_of(Conducts, texts, row, options):
                continue
            conducts, brute = Conducts(texts, row, options), Brute(plains)
            for _ in range(6):
                lists = tuple(self.some_sequence(brute, row, 6) for _ in shape.lists)
                least = tuple(conducts.least(name, values) for name, values in zip(shape.lists, lists))
                differing += lists != least
                for plain in plains:
                    if hasattr(plain, "root"):
                        self.assertEqual(plain.allows(row, options, lists), plain.allows(row, options, least))
                    else:
                        self.assertEqual(plain.run(row, options, lists)[:2], plain.run(row, options, least)[:2])
        self.assertGreater(differing, 500)

    def test_one_more_integer_at_the_end(self):
        for _ in range(150):
            shape = self.chance.choice([LARGE, ONE, LISTS])
            plains = self.some_texts(shape)
            (row, options), texts = self.some_pair(shape), [made(plain) for plain in plains]
            if not error_of(Conducts, texts, row, options):
                conducts, brute = Conducts(texts, row, options), Brute(plains)
                for name in shape.lists:
                    one = self.some_sequence(brute, row, 5)
                    least = conducts.least(name, one)
                    for integer in brute.wide(row):
                        self.assertTrue(conducts.same(name, (*one, integer), (*least, integer)))


class Objects(unittest.TestCase):
    def test_results_are_new_and_arguments_stay(self):
        texts, values = [built(EXAMPLE, SMALL)], [7, 0]
        conducts = Conducts(texts, (7, 5), (5,))
        texts.append(built("take id in ids & owner in ids", SMALL))
        shortest = conducts.shortest("ids")
        self.assertTrue(all(type(sequence) is tuple for sequence in shortest))
        shortest.clear()
        self.assertEqual(len(conducts.shortest("ids")), 3)
        self.assertEqual(conducts.least(name="ids", values=values), (7,))
        self.assertEqual(values, [7, 0])
        self.assertTrue(conducts.same(name="ids", one=[7], other=(0, 7)))
        self.assertEqual(len(Conducts(row=(7, 5), options=(5,), texts=tuple(texts[:1]))), 3)
        self.assertEqual(len(conducts), 3)

    def test_long_sequences(self):
        conducts = Conducts([built(EXAMPLE, SMALL)], (7, 5), (5,))
        self.assertEqual(conducts.least("ids", [0] * 199 + [7]), (7,))
        self.assertTrue(conducts.same("ids", [0] * 200, [10 ** 199]))
        self.assertEqual(conducts.least("ids", tuple(range(8, 230))), conducts.least("ids", (0,)))
        toggle = Conducts([built("for e in xs :\n  c = ~ c\ntake c", ONE)], (3,), (None,))
        for one, other in itertools.product((0, 1, 198, 199, 200), repeat=2):
            self.assertIs(toggle.same("xs", [5] * one, [6] * other), one % 2 == other % 2)


if __name__ == "__main__":
    unittest.main()
