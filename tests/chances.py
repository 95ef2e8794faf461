"""Builders and limits as it happens, as data (plain.py)."""

from plain import SIGNS, Plain, PlainLimit

VARIABLES = ("c", "d", "k")


class Maker:
    """Makes expressions, questions and limits for a shape, with some numbers."""

    def __init__(self, chance, shape, numbers, tests=None):
        self.chance, self.shape, self.numbers = chance, shape, numbers
        self.functions = []
        # If given, tests are drawn from these signs and sides, so that there are few cases.
        self.tests = tests

    def sign(self):
        return self.chance.choice(["=", "=", "!=", *SIGNS])

    def test(self, inputs):
        """A test of a column with an input, a number or a column, or of an input with a number."""
        column = self.chance.choice(self.shape.columns)
        draw = self.chance.random()
        if inputs and draw < 0.6:
            sides = [column, self.chance.choice(inputs)]
            self.chance.shuffle(sides)
            return ("test", sides[0], self.chance.choice(["=", "=", "!="]), sides[1])
        if draw < 0.7:
            return ("test", column, self.chance.choice(["=", "!="]), self.chance.choice(self.shape.columns))
        left = self.chance.choice([column, *inputs])
        return ("test", left, self.sign(), self.chance.choice(self.numbers))

    def expr(self, depth, inputs, around, variables):
        """An expression; around are the words of elements and the lists of walks around it."""
        draw = self.chance.random()
        free = [name for name in self.shape.lists if name not in around]
        if depth == 0 or draw < 0.2:
            return self.small_expr(inputs, free, variables)
        if draw < 0.5:
            parts = [self.expr(depth - 1, inputs, around, variables) for _ in range(self.chance.choice([2, 2, 3]))]
            return (self.chance.choice("&|"), *parts)
        if draw < 0.6:
            return ("~", self.expr(depth - 1, inputs, around, variables))
        if draw < 0.8 and free:
            word = self.chance.choice([word for word in ("e", "f", "g") if word not in around])
            name = self.chance.choice(free)
            atom = self.expr(depth - 1, [*inputs, word, word], (*around, word, name), ())
            return (self.chance.choice(["any", "all"]), word, name, atom)
        if draw < 0.9:
            question = self.question(1, inputs, free, variables)
            return ("pick", question, *[self.expr(depth - 1, inputs, around, variables) for _ in range(2)])
        callable_ones = [function for function in self.functions if not set(function[3]) & set(around)]
        if callable_ones and inputs:
            name, parameters, _, _ = self.chance.choice(callable_ones)
            return ("call", name, tuple(self.chance.choice(inputs) for _ in parameters))
        return self.small_expr(inputs, free, variables)

    def small_expr(self, inputs, free, variables):
        draw = self.chance.random()
        if draw < 0.1:
            return (self.chance.choice(["blank", "every", "none"]),)
        if draw < 0.25 and free:
            return ("in", self.chance.choice(self.shape.columns), self.chance.choice(free))
        if draw < 0.5 and variables:
            return ("var", self.chance.choice(variables))
        return self.test(inputs)

    def question(self, depth, inputs, free, variables):
        draw = self.chance.random()
        if depth and draw < 0.3:
            parts = [self.question(depth - 1, inputs, free, variables) for _ in range(2)]
            return (self.chance.choice(["and", "or"]), *parts)
        if depth and draw < 0.45:
            return ("not", self.question(depth - 1, inputs, free, variables))
        kinds = [*(["given", "input", "compare"] if inputs else []), *(["list"] if free else []),
                 *(["var"] if variables else [])]
        kind = self.chance.choice(kinds) if kinds else None
        if kind == "list":
            return ("list", self.chance.choice(free))
        if kind == "var":
            return ("var", self.chance.choice(variables))
        if kind == "compare":
            return ("compare", self.chance.choice(inputs), self.sign(), self.chance.choice(self.numbers))
        return None if kind is None else (kind, self.chance.choice(inputs))

    def function(self):
        """Makes one more function."""
        parameters = ["p", "q"][:self.chance.choice([1, 1, 2])]
        inputs = [*self.shape.options, *parameters, *parameters]
        body = self.expr(2, inputs, (), ())
        name = "fun" + "abc"[len(self.functions)]
        self.functions.append((name, parameters, body, self.lists_in(body)))

    def lists_in(self, expr):
        """The lists that an expression asks."""
        found = []
        if expr and expr[0] == "call":
            return [name for function in self.functions if function[0] == expr[1] for name in function[3]]
        for part in expr:
            if isinstance(part, tuple) and part and isinstance(part[0], str):
                found += self.lists_in(part)
            elif part in self.shape.lists:
                found.append(part)
        return found

    def limit(self, depth, inputs, inside):
        draw = self.chance.random()
        if depth and draw < 0.45:
            return (self.chance.choice(["and", "or"]), *[self.limit(depth - 1, inputs, inside) for _ in range(2)])
        if depth and draw < 0.55:
            return ("not", self.limit(depth - 1, inputs, inside))
        if self.shape.lists and not inside and draw < 0.8:
            name = self.chance.choice(self.shape.lists)
            if draw < 0.65:
                return ("in", self.chance.choice(self.shape.columns), name)
            atom = self.limit(max(depth - 1, 0), [*inputs, "e"], True)
            return (self.chance.choice(["any", "all"]), "e", name, atom)
        options = [name for name in inputs if name in self.shape.options]
        if options and draw < 0.87:
            return ("given", self.chance.choice(options))
        return (self.chance.choice(["true", "false"]),) if draw > 0.96 else self.test(inputs)


class LineMaker(Maker):
    """Makes lines of builders."""

    def block(self, depth, inputs, around, variables, in_for, most=3):
        return [self.line(depth, inputs, around, variables, in_for) for _ in range(self.chance.randint(1, most))]

    def line(self, depth, inputs, around, variables, in_for):
        draw = self.chance.random()
        free = [name for name in self.shape.lists if name not in around]
        if depth and draw < 0.2:
            question = self.question(1, inputs, free, variables)
            if question is not None:
                other = self.block(depth - 1, inputs, around, variables, in_for, 2)
                block = self.block(depth - 1, inputs, around, variables, in_for, 2)
                return ("if", question, block, other if self.chance.random() < 0.5 else None)
        if depth and draw < 0.5 and free:
            word = self.chance.choice([word for word in ("e", "f", "g") if word not in around])
            name = self.chance.choice(free)
            one = (self.chance.choice(variables),)
            return ("for", word, name, self.block(depth - 1, [*inputs, word, word], (*around, word, name), one, True))
        if in_for and draw < 0.6:
            return (self.chance.choice(["break", "skip"]),)
        if draw < (0.64 if in_for else 0.51):
            return ("refuse",)
        sign = self.chance.choice(["=", "|=", "|=", "&="])
        expr = self.expr(self.chance.choice([0, 1, 1]), inputs, around, variables)
        return ("set", self.chance.choice(variables), sign, expr, self.chance.random() < 0.15)


def some_builder(chance, shape, numbers, most=4):
    """A builder as it happens."""
    maker = LineMaker(chance, shape, numbers)
    for _ in range(chance.choice([0, 0, 1, 2])):
        maker.function()
    variables = VARIABLES[:chance.choice([1, 1, 2, 3])]
    lines = maker.block(3, list(shape.options), (), variables, False, most)
    take = ("take", maker.expr(2, list(shape.options), (), variables), chance.random() < 0.2)
    return Plain(shape, [function[:3] for function in maker.functions], [*lines, take])


def some_limit(chance, shape, numbers, depth=2):
    """A limit as it happens."""
    return PlainLimit(shape, Maker(chance, shape, numbers).limit(depth, list(shape.options), False))
