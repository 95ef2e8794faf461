"""Runs of builders: values of expressions, on one row or as trees, and the steps of a program executed."""

from emptyfilters.scenes import Scene, holds_in, is_among, tested
from emptyfilters.trees import joined, negated


def value_in(node, scene, mode):
    """The value of an expression."""
    kind, facts, parts = node
    if kind == "test":
        return mode.of_test(facts, scene)
    if kind in ("|", "&"):
        found = None
        for part in parts:
            found = mode.of_two(kind, found, value_in(part, scene, mode))
        return found
    if kind == "~":
        return mode.of_not(value_in(parts[0], scene, mode))
    if kind == "variable":
        return scene.worths.get(facts[0])
    if kind == "in":
        return mode.of_in(facts, scene)
    if kind in ("any", "all"):
        return walked(node, scene, mode)
    if kind == "pick":
        return value_in(parts[1 if holds_in(parts[0], scene) else 2], scene, mode)
    return mode.worded(kind)


def value_for(integer, node, scene, mode):
    """The value of the atom of an `any` or `all` for an element."""
    scene.slots[scene.first + node[1][0]] = integer
    return value_in(node[2][0], scene, mode)


def walk_sign(kind):
    """The sign that joins the values of an `any` or `all`."""
    return "|" if kind == "any" else "&"


def walked(node, scene, mode):
    """The value of an `any` or `all`."""
    sign = walk_sign(node[0])
    found = None
    for integer in scene.lists[node[1][0]]:
        found = mode.of_two(sign, found, value_for(integer, node, scene, mode))
    return found


def run_on(steps, row, options, lists):
    """The run of a program with inputs; its values are those on a row."""
    run = Run(Scene(row, options, lists), OnRow())
    run.execute(steps)
    return run


class OnRow:
    """Values on the row of a scene: None if blank, else True or False."""

    def worded(self, word):
        """The value of `blank`, `every` or `none`."""
        return None if word == "blank" else word == "every"

    def of_test(self, facts, scene):
        """The value of a test."""
        return tested(facts, scene.slots)

    def of_in(self, facts, scene):
        """The value of COLUMN `in` LIST."""
        return is_among(facts, scene)

    def of_two(self, sign, one, other):
        """The value of two values with `&` or `|` between them."""
        if one is None or other is None:
            return other if one is None else one
        return one and other if sign == "&" else one or other

    def of_not(self, one):
        """The value of `~` and a value."""
        return None if one is None else not one


class Written:
    """Values as trees of conditions."""

    def __init__(self, columns):
        # How many columns the table has.
        self._columns = columns

    def worded(self, word):
        """The tree of `blank`, `every` or `none`."""
        return None if word == "blank" else (word,)

    def of_test(self, facts, scene):
        """The tree of a test; an input in it stands for an integer."""
        left, sign, right, number = facts
        slots = scene.slots
        if left >= self._columns and right is None:
            value = tested(facts, slots)
            return None if value is None else ("every" if value else "none",)
        if left >= self._columns:
            left, right = right, left
        if right is None or right < self._columns:
            return ((left, sign, right, number),)
        return None if slots[right] is None else ((left, sign, None, slots[right]),)

    def of_in(self, facts, scene):
        """The tree of COLUMN `in` LIST."""
        index, column = facts
        tree = None
        for integer in scene.lists[index]:
            tree = joined("|", tree, ((column, "=", None, integer),))
        return ("none",) if tree is None else tree

    def of_two(self, sign, one, other):
        """The tree of two trees with `&` or `|` between them."""
        return joined(sign, one, other)

    def of_not(self, one):
        """The tree of `~` and a tree."""
        return negated(one)


class Run:
    """A run: the lines that it has executed, and what its `take` gave."""

    def __init__(self, scene, mode):
        self.lines = []
        self.is_refused = False
        self.given = None
        self._scene = scene
        self._mode = mode

    def execute(self, steps):
        """Executes steps; None if they end behind the last, else the word of the line that ends them."""
        for kind, line, facts, node, blocks in steps:
            self.lines.append(line)
            ending = None
            if kind == "if":
                ending = self.execute(blocks[0] if holds_in(node, self._scene) else blocks[1])
            elif kind == "for":
                ending = self._walk(facts[0], blocks[0])
            elif kind in ("break", "skip", "refuse"):
                self.is_refused = kind == "refuse"
                ending = kind
            else:
                ending = self._settle(kind, facts, self._expression(facts[0], node))
            if ending is not None:
                return ending
        return None

    def _expression(self, has_guard, node):
        value = value_in(node, self._scene, self._mode)
        return self._mode.worded("none") if has_guard and value is None else value

    def _settle(self, kind, facts, value):
        """What the value of an assignment or of the `take` is for."""
        if kind == "take":
            self.given = value
            return kind
        worths = self._scene.worths
        name = facts[1]
        worths[name] = value if kind == "=" else self._mode.of_two(kind[0], worths.get(name), value)
        return None

    def _walk(self, index, steps):
        """Executes the block of a `for` for each element; `refuse` if it is refused, else None."""
        scene = self._scene
        for integer in scene.lists[index]:
            ending = self.step_for(integer, index, steps)
            if ending == "refuse":
                return ending
            if ending == "break":
                break
        return None

    def step_for(self, integer, index, steps):
        """Executes the block of a `for` for one element."""
        self._scene.slots[self._scene.first + index] = integer
        return self.execute(steps)
