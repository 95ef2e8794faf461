"""Builders read line by line: which lines may stand where, and the steps that they become."""

from emptyfilters.cursor import Cursor
from emptyfilters.exprs import read_expr, read_question
from emptyfilters.nodes import Function, variables_of
from emptyfilters.scopes import FUNCTION, PARAMETER, Names, Scope
from emptyfilters.sides import read_walk
from emptyfilters.tokens import tokens

ASSIGNMENTS = ("=", "|=", "&=")

MOST_PARAMETERS = 3


def line_parts(text):
    """How many spaces begin a line, and its tokens."""
    return len(text) - len(text.lstrip(" ")), [word for word, _ in tokens(text)]


class Block:
    """A block: its steps, what began it, and what may stand in it."""

    def __init__(self, kind, scope):
        self.kind = kind
        self.scope = scope
        self.steps = []
        # The variable that stands in the block of a `for`, if there is one.
        self.variable = None


class Step:
    """A line that is executed; its kind is its first word behind `guard`, or the sign of an assignment."""

    def __init__(self, kind, line):
        self.kind = kind
        self.line = line
        self.node = None
        self.has_guard = False
        self.variable = None
        # The list of a `for`.
        self.list_at = None
        self.blocks = []


class Draft:
    """The lines of a builder that were read so far."""

    def __init__(self, form):
        self.names = Names(form)
        self.top = Block("top", Scope(self.names, form))
        # Whether the `take` was read.
        self.ended = False
        # Whether the lines with an assignment or `take` have a guard.
        self.guards = {}
        self._around = [self.top]
        self._in_functions = True

    def read(self, line, text):
        """Reads the next line; raises WrongToken if it breaks a rule."""
        spaces, words = line_parts(text)
        cursor = Cursor(words)
        if self.ended or not words or spaces % 2 == 1:
            cursor.fail()
        closed = self._close_blocks(cursor, spaces // 2)
        word = cursor.here()
        if word == "def":
            self._read_function(cursor)
        else:
            self._in_functions = False
            self._read_step(cursor, line, closed)
        cursor.need_end()

    def _close_blocks(self, cursor, depth):
        """Closes the blocks that end ahead of a line; the kind of the outermost of them, or None."""
        last = self._around[-1]
        deepest = len(self._around) - 1
        # A block that has just begun is not empty.
        if depth > deepest or (last.kind != "top" and not last.steps and depth < deepest):
            cursor.fail()
        closed = self._around[depth + 1].kind if depth < deepest else None
        self._around = self._around[:depth + 1]
        return closed

    def _read_function(self, cursor):
        if not self._in_functions:
            cursor.fail()
        cursor.step()
        name = cursor.here()
        if not self.names.is_new(name) or not self.names.settles(name, FUNCTION):
            cursor.fail()
        cursor.step()
        words = self._read_parameters(cursor)
        cursor.need(":")
        node = read_expr(cursor, self.top.scope.with_parameters(words))
        self.names.functions[name] = Function(len(words), node, self.names.functions)

    def _read_parameters(self, cursor):
        """A list of the parameters of a function."""
        words = []
        cursor.need("(")
        while not words or (cursor.here() == "," and len(words) < MOST_PARAMETERS):
            if words:
                cursor.step()
            word = cursor.here()
            if word in words or not self.names.settles(word, PARAMETER):
                cursor.fail()
            words.append(cursor.step())
        cursor.need(")")
        return words

    def _read_step(self, cursor, line, closed):
        word = cursor.here()
        if word == "else":
            self._read_else(cursor, closed)
        elif word == "if":
            self._read_if(cursor, line)
        elif word == "for":
            self._read_for(cursor, line)
        elif word in ("break", "skip", "refuse"):
            self._read_ending(cursor, line)
        else:
            self._read_setting(cursor, line)

    def _add(self, kind, line):
        """A new step in the innermost block."""
        step = Step(kind, line)
        self._around[-1].steps.append(step)
        return step

    def _begin(self, step, kind, scope):
        """Begins a block of a step."""
        block = Block(kind, scope)
        step.blocks.append(block)
        self._around = [*self._around, block]

    def _read_else(self, cursor, closed):
        if closed != "if":
            cursor.fail()
        cursor.step()
        cursor.need(":")
        around = self._around[-1]
        self._begin(around.steps[-1], "else", around.scope)

    def _read_if(self, cursor, line):
        cursor.step()
        scope = self._around[-1].scope
        step = self._add("if", line)
        step.node = read_question(cursor, scope)
        cursor.need(":")
        self._note_variables(cursor, variables_of(step.node))
        self._begin(step, "if", scope)

    def _read_for(self, cursor, line):
        cursor.step()
        index, inner = read_walk(cursor, self._around[-1].scope, True)
        step = self._add("for", line)
        step.list_at = index
        self._begin(step, "for", inner)

    def _read_ending(self, cursor, line):
        kind = cursor.step()
        if kind != "refuse" and not any([block.kind == "for" for block in self._around]):
            cursor.fail()
        self._add(kind, line)

    def _read_setting(self, cursor, line):
        """Reads an assignment or the `take`."""
        guarded = cursor.here() == "guard"
        if guarded:
            cursor.step()
        scope = self._around[-1].scope
        if cursor.here() == "take":
            self.ended = len(self._around) == 1
            if not self.ended:
                cursor.fail()
            step = self._add(cursor.step(), line)
        else:
            if cursor.ahead() not in ASSIGNMENTS or not scope.names_variable(cursor.here()):
                cursor.fail()
            name = cursor.step()
            step = self._add(cursor.step(), line)
            step.variable = name
            self._note_variables(cursor, [name])
        step.has_guard = guarded
        step.node = read_expr(cursor, scope)
        self.guards[line] = guarded
        self._note_variables(cursor, variables_of(step.node))

    def _note_variables(self, cursor, names):
        """Notes variables that stand in the blocks around; in that of a `for` there is only one."""
        for block in self._around:
            if block.kind == "for":
                for name in names:
                    if block.variable not in (None, name):
                        cursor.fail()
                    block.variable = name
