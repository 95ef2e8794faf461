"""Nodes: what expressions, questions and limits become when they are read.

A node is a tuple (kind, facts, parts), where parts are the nodes that it joins. The kinds and their facts:
- of expressions: `|`, `&`, `~`, `pick` (a question and two expressions), `any` and `all` (list), `blank`, `every`,
  `none`, `variable` (name), `test` (left slot, sign, right slot, number), `in` (list, slot of the column), and `call`
  (name of the function, slots);
- of questions: `or`, `and`, `not`, `list` (list), `variable` (name), `check` (as a test; it holds or does not hold);
- of limits: `or`, `and`, `not`, `true`, `false`, `check`, `in`, `some` and `each` (list).
Of the right slot and the number of a test one is None. A check with the sign `given` has only a left slot.
"""

WALKS = ("any", "all", "some", "each")


def leaf(kind, facts):
    """A node that joins none."""
    return (kind, facts, ())


def read_chain(cursor, scope, sign, read):
    """The node of one part, or of several with a sign between them."""
    parts = [read(cursor, scope)]
    while cursor.here() == sign:
        cursor.step()
        parts.append(read(cursor, scope))
    return parts[0] if len(parts) == 1 else (sign, (), tuple(parts))


def count_parts(node, functions):
    """How many parts a node has, with calls replaced."""
    kind, facts, parts = node
    if kind == "call":
        return functions[facts[0]].count
    return sum([count_parts(part, functions) for part in parts]) if parts else 1


def asked_lists(node, functions):
    """A dict with the lists that a node asks, with calls replaced."""
    kind, facts, parts = node
    if kind == "call":
        return functions[facts[0]].asked
    found = {facts[0]: True} if kind in WALKS or kind in ("in", "list") else {}
    for part in parts:
        found.update(asked_lists(part, functions))
    return found


def variables_of(node):
    """A list of the variables in a node."""
    kind, facts, parts = node
    if kind == "variable":
        return [facts[0]]
    return [name for part in parts for name in variables_of(part)]


def in_place(slot, slots):
    """A slot, or, for a parameter, that of the input in its place."""
    return slots[-1 - slot] if slot is not None and slot < 0 else slot


def expanded(node, functions, slots):
    """A node with calls replaced, and with slots in the places of parameters."""
    kind, facts, parts = node
    if kind == "call":
        name, inner = facts
        return expanded(functions[name].node, functions, [in_place(slot, slots) for slot in inner])
    if kind in ("test", "check"):
        left, sign, right, number = facts
        return leaf(kind, (in_place(left, slots), sign, in_place(right, slots), number))
    return (kind, facts, tuple([expanded(part, functions, slots) for part in parts]))


class Function:
    """A function of a text."""

    def __init__(self, many, node, functions):
        # How many parameters it has.
        self.many = many
        self.node = node
        # Functions can stand for very many parts, so they are counted where calls are not replaced yet.
        self.count = count_parts(node, functions)
        self.asked = asked_lists(node, functions)
