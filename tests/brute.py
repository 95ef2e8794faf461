"""What 26 to 28 say of texts that are data (plain.py), found by trying integers and sequences one after another."""

import itertools

from plain import SIGNS, Break, Refusal, Skip, World, allows, either, execute, holds, of_test, value


def near(numbers, width):
    """Integers in all places around some numbers, several in each wide one."""
    return sorted({number + step for number in numbers for step in range(-width, width + 1)})


def in_sides(sides, words):
    return [side for side in sides if side in words]


class Ask:
    """An ask of a list; around is the pair (element, list) of the walk around it, or None."""

    def __init__(self, kind, name, node, around, in_limit):
        self.kind, self.name, self.node, self.around, self.in_limit = kind, name, node, around, in_limit
        self.variable = None
        self.inner = []

    def starts(self):
        return [None] if self.variable is None else [None, True, False]

    def give(self, integers, lists, start):
        """What a sequence gives at the ask."""
        world = World({}, integers, lists, {self.variable: start})
        if self.kind == "list":
            return holds(("list", self.name), world)
        if self.kind in ("in", "any", "all"):
            return allows(self.node, world) if self.in_limit else value(self.node, world)
        ending = "end"
        for integer in lists[self.name]:
            try:
                execute(self.node[3], world.with_integers({self.node[1]: integer}), [])
            except Break:
                ending = "break"
                break
            except Skip:
                pass
            except Refusal:
                return "refuse"
        return ending, world.variables[self.variable]


class Brute:
    """Some texts with calls replaced."""

    def __init__(self, texts):
        self.shape = texts[0].shape
        self.fresh = itertools.count()
        self.asks, self.lists_of, self.tests, self.numbers = [], {}, [], {0}
        for text in texts:
            if hasattr(text, "root"):
                self.take_numbers(text.root)
                self.expr(text.root, {}, {}, None, True)
            else:
                for _, body in text.functions.values():
                    self.take_numbers(body)
                self.take_numbers(text.lines)
                self.block(text.lines, text.functions, {}, None)

    def take_numbers(self, node):
        """Takes the numbers of a text; what stands ahead of a line is the line's own number."""
        if node and node[0] == "test":
            self.numbers |= {side for side in node[1:] if isinstance(side, int)}
        elif node and node[0] == "compare":
            self.numbers.add(node[3])
        else:
            for part in node or ():
                if isinstance(part, (tuple, list)):
                    self.take_numbers(part)

    def walk(self, kind, node, word, name, around, in_limit, names):
        """An ask for a walk, with a name of its own for the element, and the words inside it."""
        own = f"{word}{next(self.fresh)}"
        self.lists_of[own] = name
        ask = Ask(kind, name, None, around, in_limit)
        self.asks.append(ask)
        return ask, own, {**names, word: own}

    def expr(self, node, functions, names, around, in_limit=False):
        """A node with calls replaced; its tests and asks are noted."""
        kind = node[0]
        if kind == "call":
            parameters, body = functions[node[1]]
            inner = {parameter: names.get(word, word) for parameter, word in zip(parameters, node[2])}
            return self.expr(body, functions, inner, around)
        if kind in ("any", "all"):
            ask, own, inner = self.walk(kind, node, node[1], node[2], around, in_limit, names)
            many = len(self.asks)
            ask.node = (kind, own, node[2], self.expr(node[3], functions, inner, (own, node[2]), in_limit))
            ask.inner = self.asks[many:]
            return ask.node
        if kind in ("in", "list"):
            self.asks.append(Ask(kind, node[-1], node, around, in_limit))
            if kind == "in":
                own = f"in{next(self.fresh)}"
                self.lists_of[own] = node[2]
                self.tests.append(((node[1], own), ("test", node[1], "=", own), True))
            return node
        if kind in ("test", "given", "input", "compare"):
            node = tuple(names.get(part, part) for part in node)
            sides = node[1:2] if kind != "test" else (node[1], node[3])
            self.tests.append((sides, node, in_limit or kind != "test"))
            return node
        return tuple(self.expr(part, functions, names, around, in_limit) if isinstance(part, tuple) else part
                     for part in node)

    def block(self, lines, functions, names, around):
        return [(number, self.line(line, functions, names, around)) for number, line in lines]

    def line(self, line, functions, names, around):
        kind = line[0]
        if kind in ("set", "take"):
            return (*line[:-2], self.expr(line[-2], functions, names, around), line[-1])
        if kind == "if":
            question = self.expr(line[1], functions, names, around)
            blocks = [block and self.block(block, functions, names, around) for block in line[2:]]
            return ("if", question, *blocks)
        if kind == "for":
            ask, own, inner = self.walk(kind, line, line[1], line[2], around, False, names)
            many = len(self.asks)
            ask.node = ("for", own, line[2], self.block(line[3], functions, inner, (own, line[2])))
            ask.inner = self.asks[many:]
            ask.variable = next(iter(variables_in(ask.node[3])), None)
            return ask.node
        return line

    # What a pair gives.

    def gives(self, test, integers):
        _, node, only_holds = test
        world = World({}, integers, {})
        if node[0] == "test":
            given = of_test(*node[1:], world)
            return given is True if only_holds else given
        return holds(node, world)

    def tests_of(self, name):
        """The tests with an element of a list, or, if name is None, those without elements."""
        return [test for test in self.tests
                if [self.lists_of[side] for side in test[0] if side in self.lists_of] == ([name] if name else [])]

    def wide(self, row):
        return near([*self.numbers, *row], len(row) + 1)

    def picture(self, row, name, integer):
        words = {word: integer for word in self.lists_of}
        integers = {**dict(zip(self.shape.columns, row)), **words}
        return tuple(self.gives(test, integers) for test in self.tests_of(name))

    def letters(self, row, name):
        """An integer for each picture."""
        return {self.picture(row, name, integer): integer for integer in self.wide(row)}

    def marks(self, row, options):
        integers = self.shape.integers(row, options)
        return (tuple(self.gives(test, integers) for test in self.tests_of(None)),
                tuple(frozenset(self.letters(row, name)) for name in self.shape.lists))

    def sequences(self, row, name, longest):
        letters = list(self.letters(row, name).values())
        return [sequence for many in range(longest + 1) for sequence in itertools.product(letters, repeat=many)]

    def conduct(self, row, options, name, sequence, longest):
        """What a sequence gives at all asks of its list, with others as long as longest."""
        integers = self.shape.integers(row, options)
        results = []
        for ask in self.asks:
            if ask.name == name:
                arounds = [None] if ask.around is None else self.letters(row, ask.around[1]).values()
                others = [()]
                if ask.inner:
                    others = self.sequences(row, ask.inner[0].name, longest)
                for around, other, start in itertools.product(arounds, others, ask.starts()):
                    more = {} if ask.around is None else {ask.around[0]: around}
                    lists = {word: other for word in self.shape.lists}
                    lists[name] = sequence
                    results.append(ask.give({**integers, **more}, lists, start))
        return tuple(results)


def variables_in(node):
    """The variables that stand in lines."""
    found = {}
    if isinstance(node, tuple) and node and node[0] in ("set", "var"):
        found[node[1]] = True
    if isinstance(node, (tuple, list)):
        for part in node:
            found.update(variables_in(part))
    return found
