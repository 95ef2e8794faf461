"""The fewest guards that keep a builder within a limit (34)."""

import itertools
import unittest

import tried
from emptyfilters.errors import TooMany, WrongForm
from emptyfilters.guards import Guards, least_guards
from emptyfilters.judging import judge
from made import BARE, LARGE, ONE, SMALL, built, error_of, limited, size_of

class Base(unittest.TestCase):
    def check(self, text, limit, wanted, shape=SMALL):
        """The good sets with the fewest places; every set is judged again."""
        builder, limit = built(text, shape), limited(limit, shape)
        guards = least_guards(builder, limit)
        self.assertIs(type(guards), Guards)
        self.look_at(guards, builder, limit)
        self.assertEqual(guards.sets, wanted, text)
        return guards

    def look_at(self, guards, builder, limit):
        places = builder.places()
        sets = [chosen for many in range(len(places) + 1) for chosen in itertools.combinations(places, many)]
        good = [chosen for chosen in sets if judge(builder.guarded(chosen), limit)]
        fewest = min([len(chosen) for chosen in good], default=len(places) + 1)
        self.assertEqual(guards.sets, sorted(chosen for chosen in good if len(chosen) == fewest))
        self.assertIs(bool(guards), good != [])
        self.assertEqual(set(guards.bad), {chosen for chosen in sets if len(chosen) < fewest})
        for chosen, (row, options, lists) in guards.bad.items():
            guarded = builder.guarded(chosen)
            inputs = builder.form.inputs(options, lists)
            self.assertEqual(builder.form.checked(inputs), (options, lists))
            self.assertTrue(guarded.takes(row, inputs))
            self.assertFalse(limit(row, inputs))
            self.assertEqual(size_of(options, lists), judge(guarded, limit).size)


class Sets(Base):
    def test_example(self):
        guards = self.check("c |= owner = me\ntake ~ c", "given me and not owner = me", [(1,)], tried.COLUMNS)
        self.assertEqual(list(guards.bad), [()])
        row, options, lists = guards.bad[()]
        self.assertEqual((options, lists), ((None,), ()))

    def test_within_already(self):
        guards = self.check("c = id = 3\ntake c & id = me", "id = 3", [()])
        self.assertEqual(guards.bad, {})
        self.assertTrue(guards)
        self.check("guard take id = me", "id = me", [()])
        self.check("refuse\nc = c\nd = d\ntake c", "false", [()])

    def test_no_set_is_good(self):
        for text, shape, many in (("take every", BARE, 2), ("guard take every", BARE, 1), ("c = every\ntake c", BARE, 4),
                                  ("c = id = me\nd = every\ntake c | d", SMALL, 8)):
            guards = self.check(text, "false", [], shape)
            self.assertFalse(guards)
            self.assertEqual(len(guards.bad), many)

    def test_one_place_or_two(self):
        self.check("take id = me", "id = me", [(0,)])
        self.check("c = id = me\ntake c", "id = me", [(0,), (1,)])
        self.check("c = id = me\nd = owner = me\ntake c & d", "id = me and owner = me", [(0,), (1,), (2,)])
        self.check("c = id = me\nd = any e in ids : owner = e\ntake c & d", "id = me and owner in ids", [(0, 1)])
        self.check("c = id = me\nd = any e in ids : owner = e\nguard take c & d", "id = me and owner in ids", [(0, 1)])
        self.check("guard c = id = me\nd = any e in ids : owner = e\nguard take c & d", "id = me and owner in ids", [(1,)])

    def test_three_places(self):
        text = "c = any e in xs : id = e\nd = any e in ys : owner = e\nk = id = me\nguard take c & d & k"
        self.check(text, "id in xs and owner in ys and id = me", [(0, 1, 2)], LARGE)
        text = "c |= id = me\nfor e in ids :\n  c &= owner = e\ntake c"
        self.check(text, "id = me or owner in ids", [(0,), (3,)])

    def test_more_guards_may_be_worse(self):
        """A question about a variable turns out otherwise if its line has a guard."""
        text = "c = id = me\nif c :\n  d = every\ntake d"
        guards = self.check(text, "given me", [(3,)])
        self.assertEqual(set(guards.bad), {()})
        text = "c = id = me\nif not c :\n  d = every\ntake d"
        self.check(text, "given me and not given me", [(0, 3)])

    def test_places_in_blocks(self):
        text = "if me :\n  c = owner = me\nfor e in ids :\n  c |= id = e\nguard take c"
        self.check(text, "owner = me or id in ids", [()])
        text = "if me :\n  c = owner = me\nfor e in ids :\n  guard c |= id = e\ntake c"
        self.check(text, "owner = me or id in ids", [(4,)])


class Errors(unittest.TestCase):
    def test_errors(self):
        places = "c = c\nd = d\nk = k\ntake id = 1 | id = 2 | id = 3 | id = 4"
        three = places.replace("k = k", "guard k = k")
        cases = "take " + " | ".join(f"{column} {sign} {number}" for column in ("id", "owner") for sign in ("=", "<")
                                     for number in (0, 3, 5))
        choices = "if xs or ys :\n  refuse\ntake id in xs | owner in xs | id in ys | owner in ys"
        for text, limit, error in (
            (places, limited("true", SMALL), ("WrongForm",)), (places, limited("true"), ("TooMany", "places")),
            (three, limited("true"), ("TooMany", "numbers")), (cases, limited("false"), ("TooMany", "cases")),
            (choices, limited("true"), ("TooMany", "choices")),
        ):
            self.assertEqual(error_of(least_guards, built(text), limit), error)
            self.assertEqual(error_of(least_guards, limit=limit, builder=built(text)), error)
        with self.assertRaises(TooMany) as caught:
            least_guards(built(places), limited("true"))
        self.assertEqual(caught.exception.what, "places")
        with self.assertRaises(WrongForm):
            least_guards(built("take every", ONE), limited("true", SMALL))

    def test_how_many_places(self):
        for many in range(5):
            text = "\n".join(["c = c"] * many + ["guard take c"])
            error = error_of(least_guards, built(text), limited("false"))
            self.assertEqual(error, None if many <= 3 else ("TooMany", "places"))

    def test_errors_of_sets_that_are_looked_at(self):
        """A guard in the walk tells lists apart that have elements and those that have none: 27 choices, not 24."""
        builder = built("for e in xs :\n  c &= blank\nd = any f in ys : owner = f\nguard take id in xs | owner in xs")
        limit = limited("any e in xs : e = 3")
        errors = {chosen: error_of(judge, builder.guarded(chosen), limit) for chosen in ((), (1,), (2,), (1, 2))}
        many = ("TooMany", "choices")
        self.assertEqual(errors, {(): None, (1,): many, (2,): None, (1, 2): many})
        self.assertEqual(error_of(least_guards, builder, limit), many)
        # If the set of no place is good, no other one is looked at.
        limit = limited("true or any e in xs : e = 3")
        self.assertEqual(error_of(judge, builder.guarded([1]), limit), many)
        self.assertEqual(least_guards(builder, limit).sets, [()])

    def test_all_sets_of_one_number_are_looked_at(self):
        builder = built("d = any f in ys : owner = f\nfor e in xs :\n  c &= blank\nguard take id in xs & owner in xs & d")
        limit = limited("any e in xs : e = 3 or owner in ys and id in xs and owner in xs")
        self.assertTrue(judge(builder.guarded([0]), limit))
        self.assertEqual(error_of(least_guards, builder, limit), ("TooMany", "choices"))
        builder = built(str(builder).replace("c &= blank", "skip"))
        self.assertEqual(least_guards(builder, limit).sets, [(0,)])


class Objects(unittest.TestCase):
    def test_results_are_new(self):
        guards = least_guards(built("c = id = me\ntake c", SMALL), limited("id = me", SMALL))
        sets, bad = guards.sets, guards.bad
        self.assertIs(type(sets), list)
        self.assertIs(type(bad), dict)
        sets.clear()
        bad.clear()
        guards.bad[(7,)] = None
        guards.sets.append((9,))
        self.assertEqual(guards.sets, [(0,), (1,)])
        self.assertEqual(list(guards.bad), [()])
        none = least_guards(built("take every", BARE), limited("false", BARE))
        none.sets.append(())
        self.assertEqual((none.sets, bool(none)), ([], False))

    def test_builder_stays(self):
        builder = built("c = id = me\ntake c", SMALL)
        least_guards(builder, limited("id = me", SMALL))
        self.assertEqual(str(builder), "c = id = me\ntake c")


class AsItHappens(Base):
    def test_guards(self):
        found = []
        some = tried.some_plains(34, ["builder", "limit"])
        while len(found) < 250:
            _, _, (builder, limit), _ = next(some)
            if len(builder.places()) > 3:
                self.assertEqual(error_of(least_guards, builder, limit), ("TooMany", "places"))
            elif not error_of(least_guards, builder, limit):
                guards = least_guards(builder, limit)
                self.look_at(guards, builder, limit)
                found.append(len(guards.sets[0]) if guards.sets else None)
        self.assertTrue(all(found.count(many) > 10 for many in (None, 0, 1)), found)


if __name__ == "__main__":
    unittest.main()
