"""What 31 to 35 promise, found by trying small inputs (brute.py), or by the cases and conducts of the package."""

import itertools
import random

import chances
from brute import Brute, near
from emptyfilters.cases import Cases
from emptyfilters.conducts import Conducts
from made import LARGE, LISTS, ONE, OPTIONS, SMALL, Shape, error_of, made

COLUMNS = Shape(["id", "owner"], ["me"], [])
LISTED = Shape(["id", "owner"], [], ["xs"])

SHAPES = (ONE, SMALL, LISTED, COLUMNS, OPTIONS, LISTS, Shape(["id"], ["me"], ["xs", "ys"]), LARGE)


def given(options):
    return sum(value is not None for value in options)


def small_inputs(brute, row, most):
    """All inputs that differ beside a row and have at most a size, ascending: (size, options, lists)."""
    found = []
    values = [None, *brute.wide(row)]
    for options in itertools.product(values, repeat=len(brute.shape.options)):
        if given(options) <= most:
            left = most - given(options)
            for lists in itertools.product(*[brute.sequences(row, name, left) for name in brute.shape.lists]):
                size = given(options) + sum(len(integers) for integers in lists)
                if size <= most:
                    found.append((size, options, lists))
    return sorted(found, key=lambda inputs: inputs[0])


def some_rows(chance, brute, many):
    rows = list(itertools.product(near(brute.numbers, len(brute.shape.columns)), repeat=len(brute.shape.columns)))
    return rows if len(rows) <= many else chance.sample(rows, many)


def smaller(brute, rows, size, is_sought):
    """Some sought (row, options, lists) with inputs of a smaller size than size, or of up to 2, or None."""
    for row in rows:
        for least, options, lists in small_inputs(brute, row, min(2, size - 1)):
            if is_sought(row, options, lists):
                return row, options, lists, least
    return None


def is_table(thing, texts):
    """31, for a thing whose parts are of the right kinds."""
    cases = Cases(texts)
    name_of = texts[0].form.lists
    for pair in cases.each():
        if not any(cases.same(pair, triple[:2]) and given(triple[1]) <= given(pair[1]) for triple in thing):
            return False
    for row, options, lists in thing:
        conducts = Conducts(texts, row, options)
        for name, entry in zip(name_of, lists):
            for least in conducts.shortest(name):
                if not any(conducts.same(name, least, other) and len(other) <= len(least) for other in entry):
                    return False
    return True


def some_plains(seed, makers, shapes=SHAPES):
    """Without end: texts that are data with their objects, as it happens, one by each maker (chances.py)."""
    chance = random.Random(seed)
    while True:
        shape = chance.choice(shapes)
        numbers = chance.choice([[0], [0, 3], [0], [1]])
        plains = [chances.some_limit(chance, shape, numbers, 1) if maker == "limit"
                  else chances.some_builder(chance, shape, numbers, 2) for maker in makers]
        if not any(error_of(made, plain) for plain in plains):
            yield chance, plains, [made(plain) for plain in plains], Brute(plains)
