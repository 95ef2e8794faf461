"""The errors: what they are made with, what they tell, and by what they are caught."""

import unittest

from emptyfilters import errors

FIELDS = {
    "BadTable": ("at",),
    "BadCondition": ("at",),
    "WrongTable": (),
    "BadRows": ("at",),
    "BadColumn": ("name",),
    "TooManyRows": ("count", "most"),
    "BadForm": ("name",),
    "BadBuilder": ("line",),
    "BadLimit": ("at",),
    "TooMany": ("what",),
    "BadInputs": ("name",),
    "Refused": ("line",),
    "BadPlace": ("line",),
    "WrongForm": (),
    "NotReached": ("row",),
}

VALUES = (
    0, -1, 7, 10 ** 199, -(10 ** 200), True, False, None, "", "id", "a line\nfeed", "{at}", (), (3, 5), [],
    [1, [2, "x"]], ([True, None], "y"), {(1,): ((0, 0), (None,), ((),))}, [[[[[[[[1]]]]]]]],
)

CLASSES = {name: getattr(errors, name) for name in FIELDS}


def caught_by(error, kinds):
    """The names of the kinds of errors by which an error is caught."""
    names = []
    for name in kinds:
        try:
            raise error
        except kinds[name]:
            names.append(name)
        except Exception:
            pass
    return names


class Fields(unittest.TestCase):
    def check_fields(self, error, fields, values):
        for field, value in zip(fields, values):
            self.assertEqual(getattr(error, field), value)
            self.assertIs(type(getattr(error, field)), type(value))

    def test_by_position_and_by_name(self):
        for name, fields in FIELDS.items():
            for at in range(len(VALUES)):
                values = [VALUES[(at + step) % len(VALUES)] for step in range(len(fields))]
                with self.subTest(name=name, values=values):
                    self.check_fields(CLASSES[name](*values), fields, values)
                    self.check_fields(CLASSES[name](**dict(zip(fields, values))), fields, values)

    def test_the_order_of_two_fields(self):
        for error in (errors.TooManyRows(5, 3), errors.TooManyRows(most=3, count=5), errors.TooManyRows(5, most=3)):
            self.assertEqual((error.count, error.most), (5, 3))

    def test_later_changes_of_what_it_was_made_with(self):
        for name, fields in FIELDS.items():
            for at, field in enumerate(fields):
                inner = [1]
                given = [[inner, (inner,), {"x": inner}] for _ in fields]
                error = CLASSES[name](*given)
                inner.append(2)
                given[at].append(3)
                self.assertEqual(getattr(error, field), [[1], ([1],), {"x": [1]}])

    def test_what_it_is_made_with_stays(self):
        for name, fields in FIELDS.items():
            given = [[1, ([2],), {"x": [3]}] for _ in fields]
            CLASSES[name](*given)
            self.assertEqual(given, [[1, ([2],), {"x": [3]}] for _ in fields])

    def test_there_is_a_message(self):
        for name, fields in FIELDS.items():
            by_position = str(CLASSES[name](*[4 for _ in fields]))
            by_name = str(CLASSES[name](**{field: 4 for field in fields}))
            self.assertTrue(by_position)
            self.assertEqual(by_position, by_name)


class Catching(unittest.TestCase):
    def test_all_listed_errors_are_there_and_no_others(self):
        found = [name for name in vars(errors) if isinstance(getattr(errors, name), type)]
        self.assertEqual(sorted(found), sorted([*FIELDS, "EmptyfiltersError"]))

    def test_they_are_defined_in_this_module(self):
        for name in [*FIELDS, "EmptyfiltersError"]:
            self.assertEqual(getattr(errors, name).__module__, "emptyfilters.errors")

    def test_bases(self):
        self.assertEqual(errors.EmptyfiltersError.__bases__, (ValueError,))
        for name in FIELDS:
            self.assertEqual(CLASSES[name].__bases__, (errors.EmptyfiltersError,))

    def test_caught_by_its_own_class_and_those_above_only(self):
        kinds = {**CLASSES, "EmptyfiltersError": errors.EmptyfiltersError, "ValueError": ValueError}
        for name, fields in FIELDS.items():
            with self.subTest(name=name):
                error = CLASSES[name](*[2 for _ in fields])
                self.assertEqual(caught_by(error, kinds), [name, "EmptyfiltersError", "ValueError"])

    def test_not_caught_as_another_error_of_python(self):
        kinds = {"LookupError": LookupError, "TypeError": TypeError, "RuntimeError": RuntimeError}
        for name, fields in FIELDS.items():
            self.assertEqual(caught_by(CLASSES[name](*fields), kinds), [])

    def test_the_common_error_is_caught_by_no_listed_class(self):
        kinds = {**CLASSES, "ValueError": ValueError}
        self.assertEqual(caught_by(errors.EmptyfiltersError(), kinds), ["ValueError"])


if __name__ == "__main__":
    unittest.main()
