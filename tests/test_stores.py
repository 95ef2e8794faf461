"""Stores, the deeds that are done on them, and trials."""

import itertools
import random
import unittest

from emptyfilters.conds import Cond
from emptyfilters.deeds import Deed, Delete, Update
from emptyfilters.errors import BadRows, TooManyRows, WrongTable
from emptyfilters.stores import Store, Trial, attempt, attempted
from emptyfilters.tables import Table

TABLE = Table(["id", "owner"])
SWAPPED = Table(["owner", "id"])
ROWS = [(1, 5), (2, 5), (1, 6), (1, 5), (3, 6)]


class Own(Exception):
    """An error of the caller's own."""


def store_of(rows=tuple(ROWS)):
    return Store(TABLE, list(rows))


def delete(text):
    return Delete(Cond(text, TABLE))


def update(text, **changes):
    return Update(Cond(text, TABLE), changes)


def plain(text):
    return Deed(Cond(text, TABLE))


class Making(unittest.TestCase):
    def test_rows_in_order(self):
        for rows in ([], [(0, 0)], ROWS, ROWS[::-1], [(1, 1)] * 4, [(10 ** 199, -(10 ** 199))]):
            for given in (list(rows), tuple(rows)):
                store = Store(TABLE, given)
                self.assertEqual(store.table, TABLE)
                self.assertEqual(len(store), len(rows))
                self.assertEqual(list(store), rows)
                self.assertEqual(store.listed(), rows)
                self.assertIs(type(store.listed()), list)
        self.assertEqual(Store(rows=[(1, 2)], table=TABLE).listed(), [(1, 2)])

    def test_the_list_is_copied_and_stays(self):
        rows = list(ROWS)
        store = Store(TABLE, rows)
        store.do(delete("id = 1"))
        self.assertEqual(rows, ROWS)
        rows.clear()
        self.assertEqual(store.listed(), [(2, 5), (3, 6)])

    def test_what_is_returned_may_be_changed(self):
        store = store_of()
        store.listed().clear()
        taken = store.do(plain("every"))
        taken.pop()
        taken[0] = None
        self.assertEqual(store.listed(), ROWS)
        self.assertEqual(store.do(plain("every")), ROWS)

    def test_in(self):
        store = store_of()
        for row in ROWS:
            self.assertIs(row in store, True)
        for thing in (
            (5, 1), (2, 6), (True, 5), (1, True), (3, 6, 0), (1,), (), [1, 5], [(1, 5)], ROWS, None, 1, True, "1", "",
            ((1, 5),), (1, "5"), (None, 5), ((1,), 5), {}, {1: 5},
        ):
            self.assertIs(thing in store, False, thing)
        self.assertNotIn((1, 1), store)
        self.assertNotIn((True, True), Store(TABLE, [(1, 1)]))
        self.assertNotIn((False, 0), Store(TABLE, [(0, 0)]))
        store.do(delete("owner = 5"))
        self.assertNotIn((1, 5), store)
        self.assertIn((1, 6), store)

    def test_bad_rows(self):
        bad = (
            None, 0, True, "", "row", (), (1,), (1, 2, 3), [1, 2], (True, 5), (5, False), (1, None), (1, "2"), [(1, 2)],
            ((1, 2),), (1, (2,)), {}, {"id": 1, "owner": 2},
        )
        for thing in bad:
            good = (1, 2)
            for rows, at in (([thing], 0), ([good, thing], 1), ([good, good, thing, thing], 2), ([thing, good], 0)):
                before = list(rows)
                for given in (rows, tuple(rows)):
                    with self.subTest(rows=rows), self.assertRaises(BadRows) as caught:
                        Store(TABLE, given)
                    self.assertEqual(caught.exception.at, at)
                self.assertEqual(rows, before)

    def test_not_changed_while_it_is_iterated(self):
        store = store_of()
        self.assertEqual(list(zip(store, store)), list(zip(ROWS, ROWS)))
        self.assertEqual([(one, other) for one in store for other in store], list(itertools.product(ROWS, ROWS)))

    def test_equal_to_nothing_of_another_class(self):
        store = store_of()
        for thing in (ROWS, tuple(ROWS), TABLE, None, 5, True):
            self.assertFalse(store == thing)
            self.assertFalse(thing == store)


class Doing(unittest.TestCase):
    def check(self, deed, taken, rows):
        store = store_of()
        self.assertEqual(store.do(deed), taken)
        self.assertEqual(store.listed(), rows)
        self.assertEqual(list(store), rows)
        self.assertEqual(len(store), len(rows))

    def test_delete(self):
        self.check(delete("id = 1"), [(1, 5), (1, 6), (1, 5)], [(2, 5), (3, 6)])
        self.check(delete("owner = 6"), [(1, 6), (3, 6)], [(1, 5), (2, 5), (1, 5)])
        self.check(delete("none"), [], ROWS)
        self.check(delete("every"), ROWS, [])
        self.check(delete("blank"), ROWS, [])
        self.check(delete("id = owner"), [], ROWS)

    def test_update(self):
        self.check(update("id = 1", owner=7), [(1, 5), (1, 6), (1, 5)], [(1, 7), (2, 5), (1, 7), (1, 7), (3, 6)])
        self.check(update("owner = 6", id=0, owner=0), [(1, 6), (3, 6)], [(1, 5), (2, 5), (0, 0), (1, 5), (0, 0)])
        self.check(update("blank", id=9), ROWS, [(9, owner) for _, owner in ROWS])
        self.check(update("none", id=9), [], ROWS)
        self.check(update("id = 2"), [(2, 5)], ROWS)

    def test_rows_that_have_the_values_already(self):
        self.check(update("owner = 5", owner=5), [(1, 5), (2, 5), (1, 5)], ROWS)
        store = store_of()
        with self.assertRaises(TooManyRows):
            store.do(update("owner = 5", owner=5), most=2)

    def test_a_plain_deed(self):
        self.check(plain("id = 1"), [(1, 5), (1, 6), (1, 5)], ROWS)
        self.check(plain("blank"), ROWS, ROWS)
        store = store_of()
        with self.assertRaises(TooManyRows) as caught:
            store.do(plain("id = 1"), most=2)
        self.assertEqual((caught.exception.count, caught.exception.most), (3, 2))

    def test_an_empty_store(self):
        store = store_of([])
        for deed in (delete("blank"), update("every", id=1), plain("every")):
            self.assertEqual(store.do(deed), [])
            self.assertEqual(store.do(deed, most=0), [])
            self.assertEqual(store.listed(), [])

    def test_again(self):
        store = store_of()
        deed = update("id = 1", id=2)
        self.assertEqual(len(store.do(deed)), 3)
        self.assertEqual(store.do(deed), [])
        self.assertEqual(store.do(delete("id = 2")), [(2, 5), (2, 5), (2, 6), (2, 5)])
        self.assertEqual(store.listed(), [(3, 6)])

    def test_one_deed_for_two_stores(self):
        deed = delete("id = 1")
        one, other = store_of(), store_of(ROWS[:3])
        one.do(deed)
        self.assertEqual(other.listed(), ROWS[:3])
        self.assertEqual(other.do(deed=deed), [(1, 5), (1, 6)])

    def test_the_condition_as_it_was(self):
        cond = Cond("id = 1", TABLE)
        deeds = [Delete(cond), Update(cond, {"owner": 0}), Deed(cond)]
        cond |= Cond.every(TABLE)
        for deed in deeds:
            self.assertEqual(store_of().do(deed), [(1, 5), (1, 6), (1, 5)])
        self.assertEqual(store_of().do(Delete(cond)), ROWS)


class Bounds(unittest.TestCase):
    def check(self, deed, most, count):
        """The error, with nothing changed, or what the deed does without a bound."""
        store, free = store_of(), store_of()
        taken = free.do(deed)
        self.assertEqual(len(taken), count)
        if most is None or count <= most:
            self.assertEqual(store.do(deed, most=most), taken)
            self.assertEqual(store.listed(), free.listed())
            return
        with self.assertRaises(TooManyRows) as caught:
            store.do(deed, most=most)
        self.assertEqual((caught.exception.count, caught.exception.most), (count, most))
        self.assertEqual(store.listed(), ROWS)

    def test_bounds(self):
        for most in (None, -(10 ** 199), -2, -1, 0, 1, 2, 3, 4, 5, 6, 10 ** 199):
            for text, count in (("none", 0), ("id = 2", 1), ("owner = 6", 2), ("id = 1", 3), ("blank", 5)):
                for deed in (delete(text), update(text, id=7), update(text), plain(text)):
                    with self.subTest(most=most, text=text, deed=deed):
                        self.check(deed, most, count)

    def test_none_is_no_bound(self):
        self.assertEqual(store_of().do(delete("every"), most=None), ROWS)

    def test_no_row_is_too_many_below_0(self):
        with self.assertRaises(TooManyRows) as caught:
            store_of([]).do(delete("every"), most=-1)
        self.assertEqual((caught.exception.count, caught.exception.most), (0, -1))

    def test_by_name_only(self):
        with self.assertRaises(TypeError):
            store_of().do(delete("none"), 3)


class OtherTables(unittest.TestCase):
    def test_do(self):
        for table in (SWAPPED, Table(["id"]), Table(["id", "owner", "more"])):
            for deed in (Delete(Cond.blank(table)), Update(Cond.none(table), {}), Deed(Cond.every(table))):
                store = store_of()
                for most in (None, -1, 0, 100):
                    with self.assertRaises(WrongTable):
                        store.do(deed, most=most)
                    with self.assertRaises(WrongTable):
                        attempt(store, [delete("id = 1"), deed], most=None)
                    with Trial(store, most) as trial:
                        with self.assertRaises(WrongTable):
                            trial.do(deed)
                        self.assertEqual(trial.count, 0)
                    self.assertEqual(store.listed(), ROWS)

    def test_equal_tables_are_one_table(self):
        deed = Delete(Cond("id = 1", Table(("id", "owner"))))
        self.assertEqual(len(store_of().do(deed)), 3)


class Attempts(unittest.TestCase):
    def test_several_deeds(self):
        for given in (list, tuple):
            store = store_of()
            deeds = given([update("id = 1", id=2), plain("owner = 6"), delete("id = 2")])
            self.assertEqual(attempt(store, deeds), [
                [(1, 5), (1, 6), (1, 5)], [(2, 6), (3, 6)], [(2, 5), (2, 5), (2, 6), (2, 5)],
            ])
            self.assertEqual(store.listed(), [(3, 6)])
            self.assertEqual(len(deeds), 3)

    def test_no_deed(self):
        for most in (None, -5, 0, 3):
            store = store_of()
            self.assertEqual(attempt(store, [], most=most), [])
            self.assertEqual(store.listed(), ROWS)

    def test_bounds_for_all_together(self):
        deeds = [plain("id = 1"), delete("owner = 6"), plain("none"), plain("id = 1")]
        for most, count in ((-1, 3), (0, 3), (2, 3), (3, 5), (4, 5), (5, 7), (6, 7)):
            store = store_of()
            with self.assertRaises(TooManyRows) as caught:
                attempt(store, deeds, most=most)
            self.assertEqual((caught.exception.count, caught.exception.most), (count, most))
            self.assertEqual(store.listed(), ROWS)
        for most in (7, 8, None):
            store = store_of()
            taken = attempt(store=store, deeds=deeds, most=most)
            self.assertEqual([len(rows) for rows in taken], [3, 2, 0, 2])
            self.assertEqual(store.listed(), [(1, 5), (2, 5), (1, 5)])

    def test_a_row_that_is_taken_twice_counts_twice(self):
        store = store_of([(1, 1)])
        self.assertEqual(attempt(store, [plain("every")] * 3, most=3), [[(1, 1)]] * 3)
        with self.assertRaises(TooManyRows) as caught:
            attempt(store, [plain("every")] * 3, most=2)
        self.assertEqual(caught.exception.count, 3)

    def test_no_row_is_too_many_below_0(self):
        with self.assertRaises(TooManyRows) as caught:
            attempt(store_of(), [plain("none")], most=-1)
        self.assertEqual((caught.exception.count, caught.exception.most), (0, -1))

    def test_what_is_returned_may_be_changed(self):
        store = store_of()
        attempt(store, [plain("every")])[0].clear()
        self.assertEqual(store.listed(), ROWS)

    def test_by_name_only(self):
        with self.assertRaises(TypeError):
            attempt(store_of(), [], 3)
        with self.assertRaises(TypeError):
            attempted(store_of(), lambda trial: None, 3)


class Steps(unittest.TestCase):
    def test_what_the_step_returns(self):
        for result in (None, 0, [], "x", (1, [2]), Own):
            store = store_of()
            self.assertIs(attempted(store, lambda trial: result), result)
        self.assertEqual(attempted(store_of(), lambda trial: trial.do(delete("id = 2"))), [(2, 5)])
        self.assertEqual(attempted(step=lambda trial: trial.count, store=store_of(), most=-1), 0)

    def test_deeds_stay_done(self):
        store = store_of()

        def step(trial):
            self.assertIsInstance(trial, Trial)
            trial.do(delete("id = 1"))
            trial.do(update("id = 2", id=4))
            return trial.count

        self.assertEqual(attempted(store, step, most=4), 4)
        self.assertEqual(store.listed(), [(4, 5), (3, 6)])

    def test_bounds(self):
        store = store_of()

        def step(trial):
            trial.do(delete("id = 1"))
            trial.do(delete("id = 2"))

        for most, count in ((3, 4), (2, 3), (-1, 3)):
            with self.assertRaises(TooManyRows) as caught:
                attempted(store, step, most=most)
            self.assertEqual((caught.exception.count, caught.exception.most), (count, most))
            self.assertEqual(store.listed(), ROWS)

    def test_errors_of_the_callers_own(self):
        errors = [Own("x"), ValueError(), KeyError(3), BadRows(7), KeyboardInterrupt(), StopIteration(), SystemExit()]
        for error in errors:
            store = store_of()

            def step(trial):
                trial.do(delete("id = 1"))
                store.do(delete("id = 2"))
                raise error

            with self.assertRaises(type(error)) as caught:
                attempted(store, step)
            self.assertIs(caught.exception, error)
            self.assertEqual(store.listed(), ROWS)

    def test_the_store_by_itself_is_not_counted(self):
        store = store_of()

        def step(trial):
            store.do(delete("id = 1"))
            taken = trial.do(delete("id = 2"))
            return taken, trial.count

        self.assertEqual(attempted(store, step, most=1), ([(2, 5)], 1))
        self.assertEqual(store.listed(), [(3, 6)])


class Trials(unittest.TestCase):
    def test_count(self):
        store = store_of()
        with Trial(store, 9) as trial:
            self.assertEqual(trial.count, 0)
            self.assertEqual(trial.do(plain("id = 1")), [(1, 5), (1, 6), (1, 5)])
            self.assertEqual(trial.count, 3)
            trial.do(plain("none"))
            self.assertEqual(trial.count, 3)
            trial.do(deed=delete("id = 1"))
            self.assertEqual(trial.count, 6)
        self.assertEqual(trial.count, 6)
        self.assertEqual(store.listed(), [(2, 5), (3, 6)])

    def test_the_trial_itself_is_given(self):
        trial = Trial(most=None, store=store_of())
        self.assertEqual(trial.count, 0)
        with trial as given:
            self.assertIs(given, trial)

    def test_the_beginning_is_where_it_is_entered(self):
        store = store_of()
        trial = Trial(store, None)
        store.do(delete("id = 1"))
        with self.assertRaises(Own):
            with trial:
                trial.do(delete("id = 2"))
                raise Own
        self.assertEqual(store.listed(), [(2, 5), (3, 6)])

    def test_an_error_that_leaves(self):
        store = store_of()
        error = Own()
        with self.assertRaises(Own) as caught:
            with Trial(store, None) as trial:
                trial.do(delete("id = 1"))
                store.do(update("blank", id=0))
                raise error
        self.assertIs(caught.exception, error)
        self.assertEqual(store.listed(), ROWS)
        self.assertEqual(trial.count, 3)

    def test_too_many_rows_that_leaves(self):
        store = store_of()
        with self.assertRaises(TooManyRows) as caught:
            with Trial(store, 4) as trial:
                trial.do(delete("id = 1"))
                trial.do(delete("blank"))
        self.assertEqual((caught.exception.count, caught.exception.most), (5, 4))
        self.assertEqual(store.listed(), ROWS)
        self.assertEqual(trial.count, 3)

    def test_it_goes_on_behind_an_error_that_is_caught(self):
        store = store_of()
        with Trial(store, 4) as trial:
            trial.do(delete("id = 1"))
            for _ in range(2):
                with self.assertRaises(TooManyRows) as caught:
                    trial.do(delete("blank"))
                self.assertEqual((caught.exception.count, caught.exception.most), (5, 4))
                self.assertEqual(trial.count, 3)
                self.assertEqual(store.listed(), [(2, 5), (3, 6)])
            with self.assertRaises(WrongTable):
                trial.do(Delete(Cond.every(SWAPPED)))
            self.assertEqual(trial.do(delete("id = 2")), [(2, 5)])
            self.assertEqual(trial.count, 4)
        self.assertEqual(store.listed(), [(3, 6)])

    def test_bounds(self):
        for most in (None, -1, 0, 1, 2, 3, 4, 5, 10 ** 199):
            store = store_of()
            with Trial(store, most) as trial:
                for text, many in (("none", 0), ("id = 2", 1), ("id = 1", 3), ("none", 0)):
                    before, count = store.listed(), trial.count
                    if most is None or count + many <= most:
                        self.assertEqual(len(trial.do(delete(text))), many)
                        self.assertEqual(trial.count, count + many)
                        continue
                    with self.assertRaises(TooManyRows) as caught:
                        trial.do(delete(text))
                    self.assertEqual((caught.exception.count, caught.exception.most), (count + many, most))
                    self.assertEqual((store.listed(), trial.count), (before, count))

    def test_trials_in_trials(self):
        store = store_of()
        with Trial(store, None) as outer:
            outer.do(delete("id = 2"))
            begun = store.listed()
            with self.assertRaises(Own):
                with Trial(store, None) as inner:
                    inner.do(delete("id = 1"))
                    outer.do(delete("id = 3"))
                    raise Own
            self.assertEqual(store.listed(), begun)
            self.assertEqual((outer.count, inner.count), (2, 3))
            with Trial(store, 2) as inner:
                inner.do(delete("owner = 6"))
            self.assertEqual((outer.count, inner.count), (2, 2))
        self.assertEqual(store.listed(), [(1, 5), (1, 5)])

    def test_an_error_outside_an_inner_trial_that_ended_well(self):
        store = store_of()
        with self.assertRaises(Own):
            with Trial(store, None):
                with Trial(store, None) as inner:
                    inner.do(delete("id = 1"))
                attempt(store, [delete("id = 2")])
                raise Own
        self.assertEqual(store.listed(), ROWS)

    def test_an_error_through_both(self):
        store = store_of()
        with self.assertRaises(TooManyRows):
            with Trial(store, None) as outer:
                outer.do(delete("id = 1"))
                attempt(store, [delete("id = 2"), delete("id = 3")], most=1)
        self.assertEqual(store.listed(), ROWS)

    def test_trials_of_two_stores(self):
        one, other = store_of(), store_of()
        with Trial(one, None) as first:
            first.do(delete("id = 1"))
            with self.assertRaises(Own):
                with Trial(other, None) as second:
                    second.do(delete("id = 2"))
                    first.do(delete("id = 3"))
                    raise Own
        self.assertEqual(one.listed(), [(2, 5)])
        self.assertEqual(other.listed(), ROWS)

    def test_the_store_is_the_one_that_was_passed(self):
        store = store_of()
        with Trial(store, None) as trial:
            store.do(delete("id = 1"))
            self.assertEqual(trial.do(plain("every")), [(2, 5), (3, 6)])
            trial.do(delete("id = 2"))
            self.assertEqual(store.listed(), [(3, 6)])


class AsItHappens(unittest.TestCase):
    def done(self, rows, deed):
        """The rows taken and the rows left, by the deed's own word."""
        after = [deed.becomes(row) for row in rows]
        return [row for row in rows if deed.takes(row)], [row for row in after if row is not None]

    def test_deeds_as_they_happen(self):
        chance = random.Random(41)
        texts = ("id = 1", "owner < 2", "id = owner", "id > 1 & owner != 0", "none", "blank", "~ id = 0")
        for _ in range(300):
            rows = [(chance.randrange(4), chance.randrange(4)) for _ in range(chance.randrange(9))]
            store, begun = Store(TABLE, rows), list(rows)
            most, count = chance.choice([None, 3, 8]), 0
            fails = chance.random() < 0.5
            try:
                with Trial(store, most) as trial:
                    for _ in range(6):
                        text = chance.choice(texts)
                        deed = chance.choice([delete(text), update(text, id=chance.randrange(4)), plain(text)])
                        taken, left = self.done(rows, deed)
                        if most is not None and count + len(taken) > most:
                            with self.assertRaises(TooManyRows):
                                trial.do(deed)
                        else:
                            self.assertEqual(trial.do(deed), taken)
                            rows, count = left, count + len(taken)
                        self.assertEqual((store.listed(), trial.count), (rows, count))
                    if fails:
                        raise Own
            except Own:
                pass
            self.assertEqual(store.listed(), begun if fails else rows)


if __name__ == "__main__":
    unittest.main()
