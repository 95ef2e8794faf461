"""What builders and limits have in common: tests, COLUMN `in` LIST, and the beginning of a walk."""

from emptyfilters.nodes import leaf
from emptyfilters.tokens import is_number

EQUALITIES = ("=", "!=")
SIGNS = ("=", "!=", "<", "<=", ">", ">=")


def read_input(cursor, scope):
    """The slot of an option, element or parameter."""
    slot = scope.slot(cursor.here())
    if slot is None or scope.is_column(slot):
        cursor.fail()
    cursor.step()
    return slot


def read_sign(cursor):
    """The sign of a test."""
    if cursor.here() not in SIGNS:
        cursor.fail()
    return cursor.step()


def read_number(cursor):
    """A number."""
    if not is_number(cursor.here()):
        cursor.fail()
    return int(cursor.step())


def read_facts(cursor, scope, left):
    """The facts of a test, behind its left side."""
    sign = read_sign(cursor)
    right = scope.slot(cursor.here())
    if right is None:
        return (left, sign, None, read_number(cursor))
    if sign not in EQUALITIES or not (scope.is_column(left) or scope.is_column(right)):
        cursor.fail()
    cursor.step()
    return (left, sign, right, None)


def read_relation(cursor, scope, kind):
    """A test as a node of some kind, or COLUMN `in` LIST."""
    left = scope.slot(cursor.here())
    if left is None:
        cursor.fail()
    cursor.step()
    if cursor.here() == "in" and scope.is_column(left):
        cursor.step()
        return leaf("in", (read_list(cursor, scope), left))
    return leaf(kind, read_facts(cursor, scope, left))


def read_list(cursor, scope):
    """The index of a list that is asked; not of one over which there is a walk around the place."""
    index = scope.list_index(cursor.here())
    if index is None or index in scope.walks:
        cursor.fail()
    cursor.step()
    return index


def read_walk(cursor, scope, has_variables):
    """The list of a walk and the scope inside it, from the element to the colon."""
    word = cursor.here()
    if not scope.names_element(word):
        cursor.fail()
    cursor.step()
    cursor.need("in")
    index = read_list(cursor, scope)
    cursor.need(":")
    return index, scope.within(word, index, has_variables)
