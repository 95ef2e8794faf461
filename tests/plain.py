"""Builders and limits a second time, straight from the words of 13 to 24: what the tests compare the package with.

A text is data here. Expressions, with words of the text in the places of names:
("blank",), ("every",), ("none",), ("var", v), ("test", left, sign, right), ("in", column, list), ("any", e, list, atom),
("all", e, list, atom), ("pick", question, one, other), ("call", name, inputs), ("~", one), ("&", ..), ("|", ..)
Questions: ("given", i), ("input", i), ("list", l), ("var", v), ("compare", i, sign, number), ("not", q), ("and", ..),
("or", ..). Limits: these without ("input", ..), ("list", ..), ("var", ..), and ("true",), ("false",), tests, ("in", ..),
("any", ..), ("all", ..).
Lines: ("set", v, sign, expression, guard), ("if", question, lines, other lines or None), ("for", e, list, lines),
("break",), ("skip",), ("refuse",), ("take", expression, guard).
"""

import operator

SIGNS = {
    "=": operator.eq, "!=": operator.ne, "<": operator.lt, "<=": operator.le, ">": operator.gt, ">=": operator.ge,
}


class Refusal(Exception):
    """The run is refused."""


class Break(Exception):
    """The innermost walk ends."""


class Skip(Exception):
    """The innermost walk goes on."""


class World:
    """Everything that words stand for: columns, options, elements and parameters as integers or None."""

    def __init__(self, functions, integers, lists, variables=None):
        self.functions, self.integers, self.lists = functions, integers, lists
        self.variables = {} if variables is None else variables

    def with_integers(self, more):
        return World(self.functions, {**self.integers, **more}, self.lists, self.variables)


def either(one, other, sign):
    if one is None or other is None:
        return other if one is None else one
    return (one and other) if sign == "&" else (one or other)


def fold(values, sign):
    result = None
    for one in values:
        result = either(result, one, sign)
    return result


def of_test(left, sign, right, world):
    sides = [side if isinstance(side, int) else world.integers[side] for side in (left, right)]
    return None if None in sides else SIGNS[sign](*sides)


def value(expr, world):
    """Blank (None), True or False."""
    kind = expr[0]
    if kind in ("blank", "every", "none"):
        return None if kind == "blank" else kind == "every"
    if kind == "var":
        return world.variables.get(expr[1])
    if kind == "test":
        return of_test(*expr[1:], world)
    if kind == "in":
        return any(world.integers[expr[1]] == integer for integer in world.lists[expr[2]])
    if kind in ("any", "all"):
        _, word, name, atom = expr
        values = [value(atom, world.with_integers({word: integer})) for integer in world.lists[name]]
        return fold(values, "|" if kind == "any" else "&")
    if kind == "pick":
        return value(expr[2] if holds(expr[1], world) else expr[3], world)
    if kind == "call":
        parameters, body = world.functions[expr[1]]
        given = {parameter: world.integers[word] for parameter, word in zip(parameters, expr[2])}
        return value(body, world.with_integers(given))
    if kind == "~":
        inner = value(expr[1], world)
        return None if inner is None else not inner
    return fold([value(part, world) for part in expr[1:]], kind)


def holds(question, world):
    kind = question[0]
    if kind == "given":
        return world.integers[question[1]] is not None
    if kind == "input":
        return world.integers[question[1]] not in (None, 0)
    if kind == "list":
        return list(world.lists[question[1]]) != []
    if kind == "var":
        return world.variables.get(question[1]) is not None
    if kind == "compare":
        integer = world.integers[question[1]]
        return integer is not None and SIGNS[question[2]](integer, question[3])
    if kind == "not":
        return not holds(question[1], world)
    return (all if kind == "and" else any)([holds(part, world) for part in question[1:]])


def allows(limit, world):
    kind = limit[0]
    if kind in ("true", "false"):
        return kind == "true"
    if kind == "test":
        return of_test(*limit[1:], world) is True
    if kind == "in":
        return value(limit, world)
    if kind in ("any", "all"):
        _, word, name, atom = limit
        results = [allows(atom, world.with_integers({word: integer})) for integer in world.lists[name]]
        return (any if kind == "any" else all)(results)
    if kind == "not":
        return not allows(limit[1], world)
    if kind == "given":
        return world.integers[limit[1]] is not None
    return (all if kind == "and" else any)([allows(part, world) for part in limit[1:]])


def execute(lines, world, trace):
    """Executes numbered lines (number, line); what the `take` gives."""
    taken = None
    for number, line in lines:
        kind = line[0]
        trace.append(number)
        if kind in ("set", "take"):
            expr, guard = line[-2:]
            found = value(expr, world)
            found = False if guard and found is None else found
            if kind == "take":
                taken = found
            else:
                old = world.variables.get(line[1])
                world.variables[line[1]] = found if line[2] == "=" else either(old, found, line[2][0])
        elif kind == "if":
            execute(line[2] if holds(line[1], world) else line[3] or [], world, trace)
        elif kind == "for":
            walk(line, world, trace)
        else:
            raise {"break": Break, "skip": Skip, "refuse": Refusal}[kind]
    return taken


def walk(line, world, trace):
    _, word, name, block = line
    for integer in world.lists[name]:
        try:
            execute(block, world.with_integers({word: integer}), trace)
        except Break:
            break
        except Skip:
            pass


class Shape:
    """The words of a form."""

    def __init__(self, columns, options, lists):
        self.columns, self.options, self.lists = tuple(columns), tuple(options), tuple(lists)

    def integers(self, row, options):
        return dict(zip([*self.columns, *self.options], [*row, *options]))

    def world(self, functions, row, options, lists):
        return World(functions, self.integers(row, options), dict(zip(self.lists, lists)))


class Plain:
    """A builder: functions, a list of (name, parameters, expression), and lines."""

    def __init__(self, shape, functions, lines):
        self.shape, self.many = shape, len(functions)
        self.functions = {name: (parameters, expr) for name, parameters, expr in functions}
        self.order = [name for name, _, _ in functions]
        self.texts = [f"def {name} ( {' , '.join(parameters)} ) : {expr_text(expr)}"
                      for name, parameters, expr in functions]
        self.lines = self.numbered(lines, 0)
        self.text = "\n".join(self.texts)

    def numbered(self, lines, depth):
        """The lines with their numbers; puts their texts into self.texts."""
        result = []
        for line in lines:
            number = len(self.texts)
            self.texts.append("  " * depth + line_text(line))
            if line[0] == "if":
                block = self.numbered(line[2], depth + 1)
                other = None
                if line[3] is not None:
                    self.texts.append("  " * depth + "else :")
                    other = self.numbered(line[3], depth + 1)
                line = ("if", line[1], block, other)
            elif line[0] == "for":
                line = (*line[:3], self.numbered(line[3], depth + 1))
            result.append((number, line))
        return result

    def run(self, row, options, lists):
        """Whether it is refused, what its condition gives on the row, and the lines that it executes."""
        trace = []
        try:
            taken = execute(self.lines, self.shape.world(self.functions, row, options, lists), trace)
        except Refusal:
            return True, None, trace
        return False, taken, trace

    def takes(self, row, options, lists):
        refused, taken, _ = self.run(row, options, lists)
        return not refused and taken is not False


class PlainLimit:
    """A limit."""

    def __init__(self, shape, root):
        self.shape, self.root, self.text = shape, root, limit_text(root)

    def allows(self, row, options, lists):
        return allows(self.root, self.shape.world({}, row, options, lists))


def joined_text(parts, text_of, sign, loose):
    """Parts with a sign between them; those of a kind that holds less tightly have brackets."""
    return f" {sign} ".join(f"( {text_of(part)} )" if part[0] in loose else text_of(part) for part in parts)


def atom_text(part, text_of, loose):
    return f"( {text_of(part)} )" if part[0] in loose else text_of(part)


def expr_text(expr):
    kind = expr[0]
    loose = ("|", "&")
    if kind == "|":
        return joined_text(expr[1:], expr_text, "|", ("|",))
    if kind == "&":
        return joined_text(expr[1:], expr_text, "&", loose)
    if kind == "~":
        return "~ " + atom_text(expr[1], expr_text, loose)
    if kind in ("any", "all"):
        return f"{kind} {expr[1]} in {expr[2]} : {atom_text(expr[3], expr_text, loose)}"
    if kind == "pick":
        return f"pick ( {question_text(expr[1])} , {expr_text(expr[2])} , {expr_text(expr[3])} )"
    if kind == "call":
        return f"{expr[1]} ( {' , '.join(expr[2])} )"
    if kind == "in":
        return f"{expr[1]} in {expr[2]}"
    return " ".join(str(part) for part in (expr[1:] if kind in ("test", "var") else expr))


def question_text(question):
    kind = question[0]
    if kind == "or":
        return joined_text(question[1:], question_text, "or", ("or",))
    if kind == "and":
        return joined_text(question[1:], question_text, "and", ("or", "and"))
    if kind == "not":
        return "not " + atom_text(question[1], question_text, ("or", "and"))
    return " ".join(str(part) for part in (question if kind == "given" else question[1:]))


def limit_text(limit):
    kind = limit[0]
    loose = ("or", "and")
    if kind == "or":
        return joined_text(limit[1:], limit_text, "or", ("or",))
    if kind == "and":
        return joined_text(limit[1:], limit_text, "and", loose)
    if kind == "not":
        return "not " + atom_text(limit[1], limit_text, loose)
    if kind in ("any", "all"):
        return f"{kind} {limit[1]} in {limit[2]} : {atom_text(limit[3], limit_text, loose)}"
    if kind == "in":
        return f"{limit[1]} in {limit[2]}"
    return " ".join(str(part) for part in (limit[1:] if kind == "test" else limit))


def line_text(line):
    kind = line[0]
    if kind in ("set", "take"):
        words = [*(["guard"] if line[-1] else []), *(["take"] if kind == "take" else line[1:3]), expr_text(line[-2])]
        return " ".join(words)
    if kind == "if":
        return f"if {question_text(line[1])} :"
    return f"for {line[1]} in {line[2]} :" if kind == "for" else kind
