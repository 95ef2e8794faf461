"""Expressions and questions of builders."""

from emptyfilters.nodes import leaf, read_chain
from emptyfilters.sides import SIGNS, read_input, read_list, read_number, read_relation, read_sign, read_walk


def read_expr(cursor, scope):
    """The node of an expression."""
    return read_chain(cursor, scope, "|", read_part)


def read_part(cursor, scope):
    """The node of a part of an expression."""
    return read_chain(cursor, scope, "&", read_atom)


def read_atom(cursor, scope):
    """The node of an atom of an expression."""
    word = cursor.here()
    if word == "~":
        cursor.step()
        return ("~", (), (read_atom(cursor, scope),))
    if word == "(":
        cursor.step()
        inner = read_expr(cursor, scope)
        cursor.need(")")
        return inner
    if word in ("blank", "every", "none"):
        return leaf(cursor.step(), ())
    if word in ("any", "all"):
        cursor.step()
        index, inner = read_walk(cursor, scope, False)
        return (word, (index,), (read_atom(cursor, inner),))
    if word == "pick":
        return read_pick(cursor, scope)
    return read_named(cursor, scope)


def read_pick(cursor, scope):
    """The node of a `pick`."""
    cursor.step()
    cursor.need("(")
    question = read_question(cursor, scope)
    cursor.need(",")
    one = read_expr(cursor, scope)
    cursor.need(",")
    other = read_expr(cursor, scope)
    cursor.need(")")
    return ("pick", (), (question, one, other))


def read_named(cursor, scope):
    """The node of an atom of an expression that begins with a word of the text."""
    word = cursor.here()
    if word in scope.names.functions:
        return read_call(cursor, scope)
    if scope.slot(word) is not None:
        return read_relation(cursor, scope, "test")
    return read_variable(cursor, scope)


def read_variable(cursor, scope):
    """The node of a variable."""
    if not scope.names_variable(cursor.here()):
        cursor.fail()
    return leaf("variable", (cursor.step(),))


def read_call(cursor, scope):
    """The node of a call."""
    name = cursor.step()
    function = scope.names.functions[name]
    cursor.need("(")
    slots = [read_input(cursor, scope)]
    while len(slots) < function.many:
        cursor.need(",")
        slots.append(read_input(cursor, scope))
    cursor.need(")")
    if any([index in scope.walks for index in function.asked]):
        cursor.fail()
    return leaf("call", (name, tuple(slots)))


def read_question(cursor, scope):
    """The node of a question."""
    return read_chain(cursor, scope, "or", read_question_part)


def read_question_part(cursor, scope):
    """The node of a part of a question."""
    return read_chain(cursor, scope, "and", read_question_atom)


def read_question_atom(cursor, scope):
    """The node of an atom of a question."""
    word = cursor.here()
    if word == "not":
        cursor.step()
        return ("not", (), (read_question_atom(cursor, scope),))
    if word == "(":
        cursor.step()
        inner = read_question(cursor, scope)
        cursor.need(")")
        return inner
    if word == "given":
        cursor.step()
        return leaf("check", (read_input(cursor, scope), "given", None, None))
    if scope.list_index(word) is not None:
        return leaf("list", (read_list(cursor, scope),))
    if scope.slot(word) is not None:
        return read_input_check(cursor, scope)
    return read_variable(cursor, scope)


def read_input_check(cursor, scope):
    """The node of an input alone, which holds as if `!= 0` stood behind it, or ahead of a sign and a number."""
    slot = read_input(cursor, scope)
    if cursor.here() not in SIGNS:
        return leaf("check", (slot, "!=", None, 0))
    sign = read_sign(cursor)
    return leaf("check", (slot, sign, None, read_number(cursor)))
