"""Forms: which there are, and the inputs that they check."""

import itertools
import unittest

from emptyfilters.errors import BadForm, BadInputs, TooMany
from emptyfilters.forms import Form
from emptyfilters.tables import Table

TABLE = Table(["id", "owner"])

NO_WORDS = (
    None, 0, 7, True, False, "", "ID", "a1", "a b", " a", "a_b", "abcdefghi", "if", "any", "self", "true", "blank",
    "in", (), ("me",), ["me"], [["me"]], "me\n", "-", {},
)


def form_of(options=("me", "you"), lists=("ids", "more")):
    return Form(TABLE, options=options, lists=lists)


class Making(unittest.TestCase):
    def test_options_and_lists(self):
        for options in ([], ["me"], ["me", "you"], ["you", "me"]):
            for lists in ([], ["ids"], ["ids", "abcdefgh"]):
                for given in (list, tuple):
                    form = Form(TABLE, options=given(options), lists=given(lists))
                    self.assertEqual(form.table, TABLE)
                    self.assertEqual((form.options, form.lists), (tuple(options), tuple(lists)))
                    self.assertEqual((type(form.options), type(form.lists)), (tuple, tuple))

    def test_without_them(self):
        for form in (Form(TABLE), Form(table=TABLE), Form(TABLE, lists=()), Form(TABLE, options=[])):
            self.assertEqual((form.options, form.lists), ((), ()))

    def test_by_name_only(self):
        with self.assertRaises(TypeError):
            Form(TABLE, ("me",))

    def test_bounds(self):
        self.assertEqual((Form.OPTIONS, Form.LISTS), (2, 2))
        self.assertEqual((Form(TABLE).OPTIONS, Form(TABLE).LISTS), (2, 2))

    def test_the_arguments_are_copied_and_stay(self):
        options, lists = ["me", "you"], ["ids"]
        form = Form(TABLE, options=options, lists=lists)
        self.assertEqual((options, lists), (["me", "you"], ["ids"]))
        options.clear()
        lists[0] = "more"
        self.assertEqual((form.options, form.lists), (("me", "you"), ("ids",)))
        self.assertEqual(form.checked({"ids": [1]}), ((None, None), ((1,),)))

    def test_equality(self):
        forms = [
            (TABLE, (), ()), (TABLE, ("a",), ()), (TABLE, (), ("a",)), (TABLE, ("a", "b"), ()), (TABLE, ("b", "a"), ()),
            (TABLE, ("a",), ("b",)), (TABLE, ("b",), ("a",)), (TABLE, (), ("a", "b")), (TABLE, (), ("b", "a")),
            (Table(["owner", "id"]), (), ()), (Table(["id"]), ("a",), ()), (Table(["owner", "id"]), ("a",), ("b",)),
        ]
        for (at, one), (to, other) in itertools.product(enumerate(forms), repeat=2):
            left = Form(one[0], options=one[1], lists=one[2])
            right = Form(Table(other[0].columns), options=list(other[1]), lists=list(other[2]))
            self.assertIs(left == right, at == to)
            self.assertIs(left != right, at != to)

    def test_equal_to_nothing_of_another_class(self):
        form = form_of()
        for thing in (TABLE, None, (), ("me", "you"), (TABLE, ("me", "you"), ("ids", "more")), {}, 2, True, Form):
            self.assertFalse(form == thing)
            self.assertFalse(thing == form)


class Wrong(unittest.TestCase):
    def check(self, options, lists, name):
        before = list(options), list(lists)
        for given in (list, tuple):
            with self.assertRaises(BadForm) as caught:
                Form(TABLE, options=given(options), lists=given(lists))
            self.assertEqual(caught.exception.name, name)
            self.assertIs(type(caught.exception.name), type(name))
        self.assertEqual((options, lists), before)

    def test_no_words(self):
        for thing in NO_WORDS:
            with self.subTest(thing=thing):
                self.check([thing], [], thing)
                self.check([], [thing], thing)
                self.check(["me", thing], ["ids"], thing)
                self.check(["me"], ["ids", thing], thing)
                self.check([thing, "me"], [thing], thing)

    def test_columns(self):
        self.check(["id"], [], "id")
        self.check(["me", "owner"], ["id"], "owner")
        self.check(["me"], ["ids", "id"], "id")
        self.check([], ["owner", "id"], "owner")

    def test_repeated(self):
        self.check(["me", "me"], [], "me")
        self.check(["me"], ["me"], "me")
        self.check([], ["ids", "ids"], "ids")
        self.check(["a", "b"], ["c", "a"], "a")
        self.check(["a", "b"], ["b", "a"], "b")
        self.check(["a", "b", "c", "b"], [], "b")

    def test_the_first_of_several_and_options_first(self):
        self.check(["me", None], ["id", "me"], None)
        self.check(["me"], ["me", "id"], "me")
        self.check(["me"], ["id", "me"], "id")
        self.check(["id", "owner"], [3], "id")
        self.check(["A", "id"], ["A"], "A")

    def test_a_field_that_is_a_list_is_a_copy(self):
        thing = ["me"]
        with self.assertRaises(BadForm) as caught:
            Form(TABLE, options=[thing])
        thing.append(3)
        self.assertEqual(caught.exception.name, ["me"])

    def test_too_many(self):
        for options, lists, what in (
            (["a", "b", "c"], [], "options"), ([], ["a", "b", "c"], "lists"), (list("abcdefgh"), [], "options"),
            (["a", "b", "c"], ["d", "e", "f"], "options"), (["a", "b"], ["c", "d", "e"], "lists"),
        ):
            with self.assertRaises(TooMany) as caught:
                Form(TABLE, options=options, lists=lists)
            self.assertEqual(caught.exception.what, what)

    def test_bad_names_before_too_many(self):
        self.check(["a", "b", "c", "d", "id"], [], "id")
        self.check(["a", "b", "c"], ["d", "e", "f", "a"], "a")
        self.check([], ["a", "b", "c", None], None)
        self.check(["a", "b", "c"], ["if"], "if")


class Checking(unittest.TestCase):
    def test_all_given(self):
        form = form_of()
        for given in (list, tuple):
            inputs = {"me": 5, "you": -7, "ids": given([1, 2, 1]), "more": given([])}
            self.assertEqual(form.checked(inputs), ((5, -7), ((1, 2, 1), ())))
        self.assertEqual(form.checked(inputs={"me": 0}), ((0, None), ((), ())))

    def test_what_is_missing(self):
        form = form_of()
        empty = ((None, None), ((), ()))
        for inputs in ({}, {"me": None}, {"me": None, "you": None}, {"ids": []}, {"more": (), "you": None}):
            self.assertEqual(form.checked(inputs), empty)
        self.assertEqual(form.checked({"you": 3}), ((None, 3), ((), ())))
        self.assertEqual(form.checked({"more": [3]}), ((None, None), ((), (3,))))

    def test_forms_with_fewer(self):
        self.assertEqual(Form(TABLE).checked({}), ((), ()))
        self.assertEqual(form_of(["me"], []).checked({"me": 4}), ((4,), ()))
        self.assertEqual(form_of([], ["ids"]).checked({"ids": [4]}), ((), ((4,),)))

    def test_kinds_of_what_is_returned(self):
        options, lists = form_of().checked({"ids": [1]})
        self.assertEqual([type(thing) for thing in (options, lists, *lists)], [tuple] * 4)
        self.assertIs(type(form_of().checked({})), tuple)

    def test_keys_in_any_order(self):
        items = [("me", 1), ("you", 2), ("ids", [3, 4]), ("more", [5])]
        for order in itertools.permutations(items):
            self.assertEqual(form_of().checked(dict(order)), ((1, 2), ((3, 4), (5,))))

    def test_large_integers_and_long_lists(self):
        huge, many = 10 ** 199, list(range(2000))
        checked = form_of().checked({"me": huge, "you": -huge, "ids": many, "more": [huge, -huge]})
        self.assertEqual(checked, ((huge, -huge), (tuple(many), (huge, -huge))))

    def test_inputs_stay_and_are_copied(self):
        ids = [1, 2]
        inputs = {"ids": ids, "me": 5}
        checked = form_of().checked(inputs)
        self.assertEqual(inputs, {"ids": [1, 2], "me": 5})
        self.assertEqual(list(inputs), ["ids", "me"])
        self.assertIs(inputs["ids"], ids)
        ids.append(3)
        inputs["me"] = 6
        self.assertEqual(checked, ((5, None), ((1, 2), ())))


class BadOnes(unittest.TestCase):
    def check(self, inputs, name, form=None):
        before = list(inputs.items())
        with self.assertRaises(BadInputs) as caught:
            (form or form_of()).checked(inputs)
        self.assertEqual(caught.exception.name, name)
        self.assertEqual(list(inputs.items()), before)

    def test_wrong_names(self):
        for name in ("", "them", "ME", "id", "owner", "me ", "if", "a" * 99, "idss", "self", "table"):
            for thing in (None, 1, [], [1], "x"):
                self.check({name: thing}, name)
                self.check({"me": 1, "ids": [1], name: thing}, name)
        self.check({"me": 1}, "me", Form(TABLE))
        self.check({"ids": [1]}, "ids", form_of(["me"], []))

    def test_wrong_values_of_options(self):
        for thing in (True, False, "", "5", [], [5], (), (5,), {}, [None], ((5,),)):
            self.check({"me": thing}, "me")
            self.check({"me": 1, "you": thing, "ids": []}, "you")

    def test_wrong_values_of_lists(self):
        for thing in (
            None, 0, 5, True, False, "", "ids", {}, {1: 2}, [True], [False], [1, True], (1, 2, False), [None],
            [1, None], ["1"], [[1]], [(1,)], ((),), [1, [2]], [1, "x", 2], [1] * 1999 + [True],
        ):
            self.check({"ids": thing}, "ids")
            self.check({"me": 1, "more": thing, "ids": [1]}, "more")

    def test_the_first_in_ascending_order(self):
        self.check({"you": "x", "more": "x", "me": "x", "ids": 3}, "ids")
        self.check({"you": "x", "more": "x", "me": "x"}, "me")
        self.check({"z": 1, "a": 1, "me": "x"}, "a")
        self.check({"z": 1, "me": 5, "you": True}, "you")
        self.check({"z": 1, "me": 5, "you": 5}, "z")
        self.check({"z": 1, "Z": 1}, "Z")


class Named(unittest.TestCase):
    def test_inputs(self):
        form = form_of()
        self.assertEqual(form.inputs((5, None), ((1, 2), ())), {"me": 5, "you": None, "ids": [1, 2], "more": []})
        named = form.inputs(lists=((), (3,)), options=(None, 0))
        self.assertEqual(named, {"me": None, "you": 0, "ids": [], "more": [3]})
        self.assertEqual(Form(TABLE).inputs((), ()), {})
        self.assertEqual(form_of(["me"], []).inputs((7,), ()), {"me": 7})
        for thing in (form.inputs((5, None), ((1, 2), ()))["ids"], form.inputs((5, None), ((1, 2), ()))["more"]):
            self.assertIs(type(thing), list)

    def test_there_and_back(self):
        for form in (form_of(), form_of([], ["ids"]), form_of(["me"], ["ids", "more"]), form_of(["me"], [])):
            values = itertools.product([None, 0, -3], repeat=len(form.options))
            for options in values:
                for lists in itertools.product([(), (1,), (2, 0, 2)], repeat=len(form.lists)):
                    self.assertEqual(form.checked(form.inputs(options, lists)), (options, lists))

    def test_what_is_returned_is_new(self):
        form = form_of()
        options, lists = (1, 2), ((3,), (4,))
        inputs = form.inputs(options, lists)
        inputs["ids"].append(9)
        inputs.clear()
        self.assertEqual(form.inputs(options, lists), {"me": 1, "you": 2, "ids": [3], "more": [4]})
        self.assertEqual((options, lists), ((1, 2), ((3,), (4,))))


if __name__ == "__main__":
    unittest.main()
