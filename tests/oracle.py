"""Conditions a second time, straight from the words of 7 to 9 and 25: what the tests compare the package with.

A condition is a nested tuple here: ("blank",), ("every",), ("none",), ("test", column, sign, side), ("~", one),
("&", one, other) or ("|", one, other); a side is a column or an integer.
"""

import itertools
import operator

ALL_SIGNS = {
    "=": operator.eq, "!=": operator.ne, "<": operator.lt, "<=": operator.le, ">": operator.gt, ">=": operator.ge,
}


def value(condition, columns, row):
    """Blank (None), True or False, as 8 and 9 say."""
    if condition[0] == "blank":
        return None
    if condition[0] in ("every", "none"):
        return condition[0] == "every"
    if condition[0] == "test":
        _, column, sign, side = condition
        right = row[columns.index(side)] if isinstance(side, str) else side
        return ALL_SIGNS[sign](row[columns.index(column)], right)
    values = [value(part, columns, row) for part in condition[1:]]
    if condition[0] == "~":
        return None if values[0] is None else not values[0]
    left, right = values
    if left is None or right is None:
        return right if left is None else left
    return (left and right) if condition[0] == "&" else (left or right)


def takes(condition, columns, row):
    return value(condition, columns, row) is not False


def some_test(chance, columns, numbers):
    side = chance.choice([*columns, *numbers, *numbers])
    signs = ("=", "!=") if isinstance(side, str) else tuple(ALL_SIGNS)
    return ("test", chance.choice(columns), chance.choice(signs), side)


def some_condition(chance, columns, numbers, depth):
    """A condition that is not deeper than depth."""
    if depth == 0 or chance.random() < 0.15:
        words = [("blank",), ("every",), ("none",)]
        return some_test(chance, columns, numbers) if chance.random() < 0.75 else chance.choice(words)
    sign = chance.choice(["~", "&", "&", "|", "|"])
    parts = [some_condition(chance, columns, numbers, depth - 1) for _ in range(1 if sign == "~" else 2)]
    return (sign, *parts)


RANKS = {"|": 1, "&": 2, "~": 3}


def tokens_of(condition, chance, around=0):
    """Its tokens, with brackets where they are needed, and at times where they are not."""
    if condition[0] == "test":
        tokens = [str(part) for part in condition[1:]]
    elif condition[0] == "~":
        tokens = ["~", *tokens_of(condition[1], chance, 3)]
    elif condition[0] in RANKS:
        rank = RANKS[condition[0]]
        # In a text `a | b | c` is read from the left; what stands on the right has brackets.
        left, right = tokens_of(condition[1], chance, rank), tokens_of(condition[2], chance, rank + 1)
        tokens = [*left, condition[0], *right]
    else:
        tokens = [condition[0]]
    if RANKS.get(condition[0], 4) < around or chance.random() < 0.1:
        return ["(", *tokens, ")"]
    return tokens


def need_space(one, other):
    """Whether two tokens would be others if they stood side by side."""
    return (one[-1].isalpha() and other[0].isalpha()) or (one[-1].isdigit() and other[0].isdigit()) or (
        one + other[0] in ("<=", ">=", "|=", "&=", "!="))


def text_of(tokens, chance):
    """A text with these tokens, and with spaces as it happens."""
    text = " " * chance.choice([0, 0, 1, 3])
    for at, token in enumerate(tokens):
        least = 1 if at and need_space(tokens[at - 1], token) else 0
        text += " " * (least + chance.choice([0, 0, 0, 1, 2]) if at else 0) + token
    return text + " " * chance.choice([0, 0, 1, 3])


class Wrong(Exception):
    """No condition goes on as a text does; its argument is the index of the token."""


class Reading:
    """Reads a list of tokens as 9 says, and tells the first one with which no condition goes on."""

    def __init__(self, tokens, columns):
        self.tokens, self.columns, self.at = tokens, columns, 0

    def here(self):
        return self.tokens[self.at] if self.at < len(self.tokens) else None

    def step(self, right):
        if not right:
            raise Wrong(self.at)
        self.at += 1

    def whole(self):
        self.condition()
        if self.here() is not None:
            raise Wrong(self.at)

    def condition(self):
        self.part()
        while self.here() == "|":
            self.step(True)
            self.part()

    def part(self):
        self.atom()
        while self.here() == "&":
            self.step(True)
            self.atom()

    def atom(self):
        if self.here() == "~":
            self.step(True)
            self.atom()
        elif self.here() == "(":
            self.step(True)
            self.condition()
            self.step(self.here() == ")")
        elif self.here() in ("blank", "every", "none"):
            self.step(True)
        else:
            self.step(self.here() in self.columns)
            sign = self.here()
            self.step(sign in ALL_SIGNS)
            self.step(self.is_number() or (sign in ("=", "!=") and self.here() in self.columns))

    def is_number(self):
        token = self.here()
        if token is None or token == "-0":
            return False
        digits = token[1:] if token[0] == "-" else token
        return digits.isdigit() and len(digits) <= 30 and (digits == "0" or digits[0] != "0")


def first_wrong(tokens, columns):
    """The index of the first token with which no condition goes on, perhaps behind the last one, or None."""
    try:
        Reading(tokens, columns).whole()
    except Wrong as wrong:
        return wrong.args[0]
    return None


def integers_near(numbers, width):
    return sorted({number + step for number in [0, *numbers] for step in range(-width, width + 1)})


def rows_near(columns, numbers):
    """Rows in which each column is near a number: some of each kind."""
    return list(itertools.product(integers_near(numbers, len(columns)), repeat=len(columns)))
