"""Texts of builders and limits looked through a second time, straight from the words of 13 to 17, 23 and 25."""

import re

KEPT = ("def if else for in break skip refuse take guard blank every none any all pick given and or not true false "
        "self").split()
SIGNS = ("=", "!=", "<", "<=", ">", ">=")
TOKEN = re.compile(r"[a-z]+|-?[0-9]+|[!<>|&]=|[^ ]")


class Bad(Exception):
    """The line breaks a rule."""


def tokens_of(line):
    return TOKEN.findall(line)


def is_number(token):
    return re.fullmatch(r"0|-?[1-9][0-9]{0,29}", token) is not None


def is_word(token):
    return re.fullmatch(r"[a-z]{1,8}", token) is not None and token not in KEPT


class Found:
    """What stands in a piece of text: how many parts, which lists are asked, which variables."""

    def __init__(self, parts=0, asked=(), variables=()):
        self.parts, self.asked, self.variables = parts, set(asked), list(variables)

    def __add__(self, other):
        return Found(self.parts + other.parts, self.asked | other.asked, self.variables + other.variables)


class Checker:
    """Looks through the lines of a text."""

    def __init__(self, shape):
        self.uses = {word: use for use, words in (("column", shape.columns), ("option", shape.options),
                                                  ("list", shape.lists)) for word in words}
        self.functions = {}
        self.tokens = []
        # The inputs that may stand at a place, elements and parameters among them, and whether variables may.
        self.inputs, self.free = set(shape.options), True
        self.total, self.blocks, self.last_closed = 0, [], None
        self.must_begin = self.other_than_def = self.ended = False

    def use(self, word, use):
        if not is_word(word) or self.uses.setdefault(word, use) != use:
            raise Bad()
        return word

    def pop(self, *allowed):
        if not self.tokens or (allowed and self.tokens[0] not in allowed):
            raise Bad()
        return self.tokens.pop(0)

    def next_is(self, *words):
        return bool(self.tokens) and self.tokens[0] in words

    def line(self, text):
        spaces = re.match(" *", text).end()
        self.tokens = tokens_of(text)
        depth = len(self.blocks)
        if not self.tokens or self.ended or spaces % 2 or spaces // 2 > depth or (
                self.must_begin and spaces // 2 != depth):
            raise Bad()
        closed = self.blocks[spaces // 2] if spaces // 2 < depth else None
        del self.blocks[spaces // 2:]
        self.must_begin = False
        self.inputs = {word for word in self.uses if self.uses[word] == "option"}
        self.inputs |= {block[1] for block in self.blocks if block[0] == "for"}
        if self.next_is("def"):
            self.function()
            return
        self.other_than_def = True
        found = self.step(closed)
        self.total += found.parts
        if self.tokens:
            raise Bad()
        for block in [block for block in self.blocks if block[0] == "for"]:
            block[3].update(found.variables)
            if len(block[3]) > 1:
                raise Bad()
        if found.asked & self.around(len(self.blocks) - 1 if self.must_begin else len(self.blocks)):
            raise Bad()

    def around(self, depth):
        return {block[2] for block in self.blocks[:depth] if block[0] == "for"}

    def function(self):
        if self.other_than_def:
            raise Bad()
        self.pop("def")
        name = self.pop()
        if name in self.uses:
            raise Bad()
        self.use(name, "function")
        parameters = []
        self.pop("(")
        while not parameters or self.next_is(","):
            if parameters:
                self.pop(",")
            parameters.append(self.use(self.pop(), "parameter"))
        self.pop(")")
        self.pop(":")
        if len(parameters) > 3 or len(set(parameters)) < len(parameters):
            raise Bad()
        self.inputs |= set(parameters)
        self.free = False
        found = self.chain("|", lambda: self.chain("&", self.atom))
        self.free = True
        if self.tokens:
            raise Bad()
        self.functions[name] = (len(parameters), found)

    def step(self, closed):
        first = self.pop()
        if first == "if":
            found = self.question()
            self.open("if")
            return found
        if first == "else":
            if closed is None or closed[0] != "if":
                raise Bad()
            self.open("else")
            return Found()
        if first == "for":
            word = self.use(self.pop(), "element")
            if word in self.inputs:
                raise Bad()
            self.pop("in")
            name = self.pop()
            if self.uses.get(name) != "list":
                raise Bad()
            self.open("for", word, name, set())
            return Found(0, [name])
        if first in ("break", "skip", "refuse"):
            if first != "refuse" and not self.around(None):
                raise Bad()
            return Found()
        if first == "guard":
            first = self.pop()
        if first == "take":
            if self.blocks:
                raise Bad()
            self.ended = True
            return self.expr()
        self.use(first, "variable")
        self.pop("=", "|=", "&=")
        return Found(0, (), [first]) + self.expr()

    def open(self, *block):
        self.pop(":")
        self.must_begin = True
        self.blocks.append(block)

    def chain(self, sign, read):
        found = read()
        while self.next_is(sign):
            self.pop()
            found += read()
        return found

    def expr(self):
        return self.chain("|", lambda: self.chain("&", self.atom))

    def question(self):
        return self.chain("or", lambda: self.chain("and", self.question_atom))

    def atom(self):
        token = self.pop()
        use = self.uses.get(token)
        if token == "~":
            return self.atom()
        if token == "(":
            found = self.expr()
            self.pop(")")
            return found
        if token in ("blank", "every", "none"):
            return Found(1)
        if token in ("any", "all"):
            return self.walk()
        if token == "pick":
            self.pop("(")
            found = self.question()
            for _ in range(2):
                self.pop(",")
                found += self.expr()
            self.pop(")")
            return found
        if token in self.functions:
            return self.call(*self.functions[token])
        if use == "column" and self.next_is("in"):
            self.pop()
            name = self.pop()
            if self.uses.get(name) != "list":
                raise Bad()
            return Found(1, [name])
        if use == "column" or token in self.inputs:
            return self.test(use)
        if self.next_is("(", "in", *SIGNS) or not self.free:
            raise Bad()
        return Found(1, (), [self.use(token, "variable")])

    def test(self, use):
        sign = self.pop(*SIGNS)
        side = self.pop()
        if is_number(side):
            return Found(1)
        other = "column" if self.uses.get(side) == "column" else "input" if side in self.inputs else None
        if other is None or sign not in ("=", "!=") or (use != "column" and other != "column"):
            raise Bad()
        return Found(1)

    def walk(self):
        word = self.use(self.pop(), "element")
        if word in self.inputs:
            raise Bad()
        self.pop("in")
        name = self.pop()
        self.pop(":")
        if self.uses.get(name) != "list":
            raise Bad()
        free, self.free = self.free, False
        self.inputs.add(word)
        found = self.atom()
        self.inputs.remove(word)
        self.free = free
        if name in found.asked:
            raise Bad()
        return found + Found(0, [name])

    def call(self, many, found):
        self.pop("(")
        for at in range(many):
            if at:
                self.pop(",")
            if self.pop() not in self.inputs:
                raise Bad()
        self.pop(")")
        return found

    def question_atom(self):
        token = self.pop()
        if token == "not":
            return self.question_atom()
        if token == "(":
            found = self.question()
            self.pop(")")
            return found
        if token == "given":
            if self.pop() not in self.inputs:
                raise Bad()
            return Found(1)
        if self.uses.get(token) == "list":
            return Found(1, [token])
        if token in self.inputs:
            if self.next_is(*SIGNS):
                self.pop()
                if not self.tokens or not is_number(self.pop()):
                    raise Bad()
            return Found(1)
        if not self.free:
            raise Bad()
        return Found(1, (), [self.use(token, "variable")])


def looked_through(text, shape):
    """("line", number), ("parts",), ("variables",) or ("right",)."""
    checker = Checker(shape)
    lines = text.split("\n")
    for number, line in enumerate(lines):
        try:
            checker.line(line)
        except Bad:
            return "line", number
    if not checker.ended:
        return "line", len(lines)
    if max([checker.total, *[found.parts for _, found in checker.functions.values()]]) > 60:
        return ("parts",)
    many = sum(use == "variable" for use in checker.uses.values())
    return ("variables",) if many > 3 else ("right",)


class Recognizer:
    """Whether tokens are a limit: finds each place where a limit that begins at a place can end."""

    def __init__(self, tokens, shape):
        self.tokens, self.shape = [*tokens, ""], shape

    def is_limit(self):
        return len(self.tokens) - 1 in self.chain(0, None, ("or", "and"))

    def chain(self, at, word, signs):
        """The ends of a chain; word is the element, if it is inside a walk."""
        read = (lambda start: self.chain(start, word, signs[1:])) if signs[1:] else lambda start: self.atom(start, word)
        ends, reached = set(), set(read(at))
        while reached:
            end = reached.pop()
            ends.add(end)
            if self.tokens[end] == signs[0]:
                reached |= set(read(end + 1)) - ends
        return ends

    def atom(self, at, word):
        first, *rest = self.tokens[at:at + 5] + [""] * 4
        if first == "not":
            return self.atom(at + 1, word)
        if first == "(":
            return {end + 1 for end in self.chain(at + 1, word, ("or", "and")) if self.tokens[end] == ")"}
        if first in ("true", "false"):
            return {at + 1}
        if first == "given":
            return {at + 2} if rest[0] in self.shape.options else set()
        if first in ("any", "all"):
            known = (*self.shape.columns, *self.shape.options, *self.shape.lists)
            right = is_word(rest[0]) and rest[0] not in known and rest[1] == "in" and rest[3] == ":"
            return self.atom(at + 5, rest[0]) if right and rest[2] in self.shape.lists and word is None else set()
        if first in self.shape.columns and rest[0] == "in":
            return {at + 3} if rest[1] in self.shape.lists and word is None else set()
        return {at + 3} if self.is_test(first, rest[0], rest[1], word) else set()

    def is_test(self, left, sign, right, word):
        inputs = [*self.shape.options, *([] if word is None else [word])]
        if left not in self.shape.columns and left not in inputs:
            return False
        if is_number(right):
            return sign in SIGNS
        sides = (left in inputs) + (right in inputs)
        return sign in ("=", "!=") and (right in inputs or right in self.shape.columns) and sides < 2


# One of these, with some brackets behind it, ends each limit that has begun.
ENDINGS = ("", "true", "= 0", "0", "zz", "in zz", "zz : true", ": true", "in zz : true", "e in zz : true", "id = 0")


def first_wrong(tokens, shape):
    """The index of the first token with which no limit goes on, perhaps behind the last one, or None."""
    if Recognizer(tokens, shape).is_limit():
        return None
    for many in range(1, len(tokens) + 1):
        if not can_go_on(tokens[:many], shape):
            return many - 1
    return len(tokens)


def can_go_on(tokens, shape):
    depth = tokens.count("(")
    # In a form without lists or options a list zz and an option oo stand for them, if they do not stand there yet.
    more = type(shape)(shape.columns, shape.options or ("oo",), shape.lists or ("zz",))
    for ending in [ending.replace("zz", more.lists[0]) for ending in ENDINGS] + [more.options[0]]:
        for close in range(depth + 1):
            if Recognizer([*tokens, *ending.split(), *[")"] * close], more).is_limit():
                return True
    return False
