"""What the words of a text stand for, and whether questions and limits hold then."""

from emptyfilters.truths import compares


def tested(facts, slots):
    """The value of a test: None if it is blank, else True or False."""
    left, sign, right, number = facts
    one = slots[left]
    other = number if right is None else slots[right]
    if one is None or other is None:
        return None
    return compares(one, sign, other)


def check_holds(facts, slots):
    """Whether a check holds."""
    if facts[1] == "given":
        return slots[facts[0]] is not None
    return tested(facts, slots) is True


def is_among(facts, scene):
    """Whether a column is equal to an integer of a list."""
    index, column = facts
    return scene.slots[column] in scene.lists[index]


def holds_for(integer, node, scene):
    """Whether the atom of a walk of a limit holds for an element."""
    scene.slots[scene.first + node[1][0]] = integer
    return holds_in(node[2][0], scene)


def holds_in(node, scene):
    """Whether a question or a limit holds."""
    kind, facts, parts = node
    if kind == "check":
        return check_holds(facts, scene.slots)
    if kind == "not":
        return not holds_in(parts[0], scene)
    if kind == "and":
        return all([holds_in(part, scene) for part in parts])
    if kind == "or":
        return any([holds_in(part, scene) for part in parts])
    if kind == "list":
        return len(scene.lists[facts[0]]) > 0
    if kind == "variable":
        return scene.worths.get(facts[0]) is not None
    if kind == "in":
        return is_among(facts, scene)
    if kind == "some":
        return any([holds_for(integer, node, scene) for integer in scene.lists[facts[0]]])
    if kind == "each":
        return all([holds_for(integer, node, scene) for integer in scene.lists[facts[0]]])
    return kind == "true"


class Scene:
    """A row, options, lists, elements and values of variables."""

    def __init__(self, row, options, lists):
        # The slot of the element of the first list.
        self.first = len(row) + len(options)
        self.slots = [*row, *options, *[None for _ in lists]]
        self.lists = lists
        # The values of the variables; one that is not there is blank.
        self.worths = {}
