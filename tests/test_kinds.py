"""Kinds of rows and ways in which an integer stands beside a row, against their definition."""

import itertools
import random
import unittest

from emptyfilters.kinds import Kinds
from emptyfilters.tables import Table

FAR = 10 ** 29

NUMBERS = (
    [], [0], [7], [-7], [3, 5], [3, 6], [3, 4], [5, 3], [0, 0], [-1, 1], [3, 7], [3, 8], [3, 5, 7], [3, 4, 5],
    [9, 2, 5], [1, 1, 2], [0, 100], [1, 2, 3, 4], [4, 2, 8, 6], [0, 3, 6, 9], [10, 0, 4, 7], [5, 5, 5, 5],
    [-FAR], [FAR, FAR + 1], [FAR + 3, FAR], [-FAR, FAR], [FAR, -FAR, 0, FAR + 2], [9 * FAR, 1, 9 * FAR + 3, -9 * FAR],
    [-1000, 1000, -10, 10],
)


def table_of(many):
    return Table(["id", "owner", "state"][:many])


def standing(numbers, integer):
    """What 5 says of one column: below, equal to and above which numbers it is."""
    return tuple((integer < number, integer == number, integer > number) for number in numbers)


def kind_of(numbers, row):
    """What 5 says of a row."""
    same_columns = tuple(one == other for one, other in itertools.combinations(row, 2))
    return tuple(standing(numbers, part) for part in row), same_columns


def way_of(numbers, row, integer):
    """What 5 says of an integer beside a row."""
    return standing(numbers, integer), tuple(integer == part for part in row)


def near(numbers, width):
    """All integers near the numbers and near 0."""
    return sorted({number + step for number in [0, *numbers] for step in range(-width, width + 1)})


def some_rows(many, numbers, chance):
    """Rows near the numbers, far from them, and with equal columns."""
    integers = [*near(numbers, 5), 10 ** 199, -(10 ** 199), 10 ** 199 + 1, 12345, -54321]
    rows = [tuple(chance.choice(integers) for _ in range(many)) for _ in range(60)]
    return rows + [(integer,) * many for integer in chance.sample(integers, 8)]


class Counting(unittest.TestCase):
    def test_the_examples(self):
        self.assertEqual(len(Kinds(table_of(2), [3, 5])), 27)
        self.assertEqual(len(Kinds(table_of(2), [3, 6])), 28)

    def test_one_row_of_its_kind(self):
        kinds = Kinds(table_of(2), [3, 5])
        self.assertEqual([row for row in kinds.each() if kinds.same(row, (4, 4))], [(4, 4)])

    def test_without_numbers(self):
        self.assertEqual([len(Kinds(table_of(many), [])) for many in (1, 2, 3)], [1, 2, 5])

    def test_one_number(self):
        self.assertEqual([len(Kinds(table_of(many), [4])) for many in (1, 2, 3)], [3, 11, 47])

    def test_few_integers_between(self):
        self.assertEqual([len(Kinds(table_of(1), [3, 3 + gap])) for gap in (1, 2, 3, 4)], [4, 5, 5, 5])
        self.assertEqual([len(Kinds(table_of(2), [3, 3 + gap])) for gap in (1, 2, 3, 4)], [18, 27, 28, 28])
        # Three columns between two numbers are all different only from three integers on.
        by_gap = [len(Kinds(table_of(3), [3, 3 + gap])) for gap in (1, 2, 3, 4, 5, 6)]
        self.assertEqual(by_gap[3] - by_gap[2], 1)
        self.assertEqual(by_gap[3:], [by_gap[3]] * 3)

    def test_all_rows_near_the_numbers(self):
        for many in (1, 2, 3):
            for numbers in NUMBERS:
                integers = near(numbers, 4)
                if len(integers) ** many > 30000:
                    continue
                found = {kind_of(numbers, row) for row in itertools.product(integers, repeat=many)}
                with self.subTest(many=many, numbers=numbers):
                    self.assertEqual(len(Kinds(table_of(many), numbers)), len(found))

    def test_far_numbers_have_as_many_as_less_far_ones(self):
        for many in (1, 2, 3):
            few = len(Kinds(table_of(many), [0, 10, 20, 30]))
            self.assertEqual(len(Kinds(table_of(many), [-9 * FAR, -FAR, FAR, 9 * FAR])), few)


class Making(unittest.TestCase):
    def test_numbers(self):
        self.assertEqual(Kinds(table_of(1), []).numbers, ())
        self.assertEqual(Kinds(table_of(2), [5, 3, 5, 3]).numbers, (3, 5))
        self.assertEqual(Kinds(table_of(3), (FAR, 0, -FAR, 2)).numbers, (-FAR, 0, 2, FAR))
        self.assertIs(type(Kinds(table_of(1), [1]).numbers), tuple)

    def test_the_order_and_repeats_mean_nothing(self):
        for order in itertools.permutations([3, 6, 6, -2]):
            kinds = Kinds(table_of(2), list(order))
            self.assertEqual(kinds.numbers, (-2, 3, 6))
            self.assertEqual(len(kinds), len(Kinds(table_of(2), [-2, 3, 6])))

    def test_by_name_and_from_a_tuple(self):
        kinds = Kinds(table=table_of(2), numbers=(3, 5))
        self.assertEqual(len(kinds), 27)
        self.assertTrue(kinds.same(one=(1, 2), other=(2, 1)))
        self.assertFalse(kinds.same(other=(1, 1), one=(1, 2)))
        self.assertTrue(kinds.alike(row=(1, 2), one=-5, other=0))
        self.assertFalse(kinds.alike(other=0, one=1, row=(1, 2)))
        self.assertEqual(kinds.spots(row=(1, 2)), kinds.spots((1, 2)))

    def test_the_list_is_copied_and_stays(self):
        numbers = [5, 3]
        kinds = Kinds(table_of(2), numbers)
        self.assertEqual(numbers, [5, 3])
        rows, spots = kinds.each(), kinds.spots((4, 9))
        numbers[0] = 100
        numbers.append(7)
        self.assertEqual((kinds.numbers, len(kinds)), ((3, 5), 27))
        self.assertEqual((kinds.each(), kinds.spots((4, 9))), (rows, spots))
        self.assertFalse(kinds.alike((0, 0), 4, 5))

    def test_changed_results_have_no_effect(self):
        kinds = Kinds(table_of(2), [3, 6])
        rows, spots = kinds.each(), kinds.spots((4, 5))
        kept_rows, kept_spots = list(rows), list(spots)
        rows.pop()
        rows[0] = None
        spots.clear()
        self.assertEqual(len(kinds), 28)
        self.assertEqual(kinds.each(), kept_rows)
        self.assertEqual(kinds.spots((4, 5)), kept_spots)
        self.assertTrue(kinds.same((7, 7), (9, 9)))

    def test_equal_to_nothing_of_another_class(self):
        kinds = Kinds(table_of(1), [3])
        for thing in ((3,), [3], kinds.each(), 3, None, table_of(1)):
            self.assertNotEqual(kinds, thing)
            self.assertNotEqual(thing, kinds)


class RowsOfOneKind(unittest.TestCase):
    def test_same(self):
        chance = random.Random(5)
        for many in (1, 2, 3):
            for numbers in NUMBERS:
                kinds = Kinds(table_of(many), numbers)
                rows = some_rows(many, numbers, chance)
                for one, other in itertools.product(rows[::2], rows[::3]):
                    same = kind_of(numbers, one) == kind_of(numbers, other)
                    self.assertIs(kinds.same(one, other), same, (numbers, one, other))

    def test_same_looks_at_equal_columns_but_not_at_their_order(self):
        kinds = Kinds(table_of(3), [0])
        self.assertTrue(kinds.same((1, 2, 3), (3, 2, 1)))
        self.assertTrue(kinds.same((1, 2, 1), (5, 4, 5)))
        self.assertFalse(kinds.same((1, 2, 1), (5, 5, 4)))
        self.assertFalse(kinds.same((1, 1, 1), (1, 1, 2)))
        self.assertFalse(kinds.same((1, 2, 3), (1, 2, 0)))
        self.assertFalse(kinds.same((1, 2, 3), (1, 2, -3)))

    def test_each_is_a_list_of_rows(self):
        for many in (1, 2, 3):
            table = table_of(many)
            for numbers in NUMBERS:
                kinds = Kinds(table, numbers)
                rows = kinds.each()
                self.assertIs(type(rows), list)
                self.assertEqual(len(rows), len(kinds))
                self.assertTrue(all(row in table for row in rows))

    def test_no_kind_comes_twice(self):
        for many in (1, 2, 3):
            for numbers in NUMBERS:
                rows = Kinds(table_of(many), numbers).each()
                self.assertEqual(len({kind_of(numbers, row) for row in rows}), len(rows), (many, numbers))

    def test_each_row_is_of_one_kind_with_exactly_one(self):
        chance = random.Random(6)
        for many in (1, 2, 3):
            for numbers in NUMBERS:
                kinds = Kinds(table_of(many), numbers)
                found = {kind_of(numbers, row): row for row in kinds.each()}
                for row in some_rows(many, numbers, chance):
                    self.assertIn(kind_of(numbers, row), found, (numbers, row))

    def test_exactly_one_by_same_itself(self):
        chance = random.Random(7)
        for many, numbers in itertools.product((1, 2, 3), ([], [3, 5], [4, 2, 7, 3], [FAR, -FAR, FAR + 2])):
            kinds = Kinds(table_of(many), numbers)
            for row in some_rows(many, numbers, chance)[::5]:
                self.assertEqual(len([one for one in kinds.each() if kinds.same(row, one)]), 1)


class Spots(unittest.TestCase):
    def test_the_examples(self):
        kinds = Kinds(table_of(2), [3, 6])
        beside = kinds.spots((4, 5))
        self.assertEqual([spot for spot in beside if 3 <= spot <= 6], [3, 4, 5, 6])
        self.assertEqual(len(beside), 6)
        self.assertEqual([spot for spot in kinds.spots((4, 4)) if 3 <= spot <= 6], [3, 4, 5, 6])
        self.assertFalse(kinds.alike((4, 4), 4, 5))
        self.assertEqual([spot for spot in kinds.spots((1, 1)) if 3 < spot < 6][1:], [])
        self.assertTrue(kinds.alike((1, 1), 4, 5))
        self.assertEqual(len(Kinds(table_of(2), [3, 5]).spots((4, 4))), 5)

    def test_alike(self):
        chance = random.Random(8)
        for many in (1, 2, 3):
            for numbers in NUMBERS:
                kinds = Kinds(table_of(many), numbers)
                for row in some_rows(many, numbers, chance)[::9]:
                    integers = [*chance.choices(near([*numbers, *row], 3), k=12), *row, *numbers]
                    for one, other in itertools.product(integers, repeat=2):
                        alike = way_of(numbers, row, one) == way_of(numbers, row, other)
                        self.assertIs(kinds.alike(row, one, other), alike, (numbers, row, one, other))

    def test_one_spot_for_each_way(self):
        chance = random.Random(9)
        for many in (1, 2, 3):
            for numbers in NUMBERS:
                kinds = Kinds(table_of(many), numbers)
                for row in some_rows(many, numbers, chance):
                    spots = kinds.spots(row)
                    self.assertIs(type(spots), list)
                    self.assertEqual(spots, sorted(spots))
                    found = [way_of(numbers, row, spot) for spot in spots]
                    self.assertEqual(len(found), len(set(found)), (numbers, row, spots))
                    ways = {way_of(numbers, row, integer) for integer in near([*numbers, *row], 5)}
                    self.assertEqual(set(found), ways, (numbers, row, spots))

    def test_exactly_one_by_alike_itself(self):
        chance = random.Random(10)
        for many, numbers in itertools.product((1, 2, 3), ([], [3, 5], [4, 2, 7, 3], [FAR, -FAR, FAR + 2])):
            kinds = Kinds(table_of(many), numbers)
            for row in some_rows(many, numbers, chance)[::7]:
                for integer in [*near([*numbers, *row], 3), 10 ** 199, -(10 ** 199)]:
                    self.assertEqual(len([spot for spot in kinds.spots(row) if kinds.alike(row, spot, integer)]), 1)

    def test_the_arguments_stay(self):
        row = (4, 5)
        Kinds(table_of(2), [3, 6]).spots(row)
        self.assertEqual(row, (4, 5))

    def test_the_same_call_again(self):
        one, other = Kinds(table_of(3), [3, 6, 0]), Kinds(table_of(3), [0, 6, 3])
        self.assertEqual(one.each(), one.each())
        self.assertEqual(one.each(), other.each())
        self.assertEqual(one.spots((1, 5, 1)), other.spots((1, 5, 1)))


if __name__ == "__main__":
    unittest.main()
