"""Limits: which rows may be taken with which inputs."""

from emptyfilters.cursor import Cursor, WrongToken
from emptyfilters.errors import BadLimit
from emptyfilters.nodes import leaf, read_chain
from emptyfilters.scenes import Scene, holds_in
from emptyfilters.scopes import Names, Scope
from emptyfilters.sides import read_relation, read_walk
from emptyfilters.tokens import tokens


def read_limit(cursor, scope):
    """The node of a limit."""
    return read_chain(cursor, scope, "or", read_limit_part)


def read_limit_part(cursor, scope):
    """The node of a part of a limit."""
    return read_chain(cursor, scope, "and", read_limit_atom)


def read_limit_atom(cursor, scope):
    """The node of an atom of a limit."""
    word = cursor.here()
    if word == "not":
        cursor.step()
        return ("not", (), (read_limit_atom(cursor, scope),))
    if word == "(":
        cursor.step()
        inner = read_limit(cursor, scope)
        cursor.need(")")
        return inner
    if word in ("true", "false"):
        return leaf(cursor.step(), ())
    if word == "given":
        return read_given(cursor, scope)
    if word in ("any", "all") and not scope.walks:
        cursor.step()
        index, inner = read_walk(cursor, scope, False)
        return ("some" if word == "any" else "each", (index,), (read_limit_atom(cursor, inner),))
    if scope.walks and scope.slot(word) is not None and cursor.ahead() == "in":
        # No COLUMN `in` LIST is inside a walk, so the wrong token is `in`, whatever list comes behind it.
        cursor.step()
        cursor.fail()
    return read_relation(cursor, scope, "check")


def read_given(cursor, scope):
    """The node of `given` and an option; an element may not stand there."""
    cursor.step()
    slot = scope.slot(cursor.here())
    if slot is None or not scope.is_option(slot):
        cursor.fail()
    cursor.step()
    return leaf("check", (slot, "given", None, None))


def limit_node(found, length, form):
    """The node of a limit, from its tokens and their places."""
    cursor = Cursor([word for word, _ in found])
    try:
        node = read_limit(cursor, Scope(Names(form), form))
        cursor.need_end()
    except WrongToken as wrong:
        places = [*[place for _, place in found], length]
        raise BadLimit(places[wrong.at]) from None
    return node


def root_of(limit):
    """The node of a limit."""
    return limit._root


def words_of(limit):
    """A list of the tokens of a limit."""
    return list(limit._words)


def allows(limit, row, options, lists):
    """Whether a limit allows a row for inputs."""
    return holds_in(limit._root, Scene(row, options, lists))


class Limit:
    """A form, and a text that says which rows inputs allow."""

    def __init__(self, text, form):
        if not isinstance(text, str):
            raise BadLimit(-1)
        found = tokens(text)
        self.form = form
        self._root = limit_node(found, len(text), form)
        self._words = [word for word, _ in found]

    def __call__(self, row, inputs):
        options, lists = self.form.checked(inputs)
        return allows(self, row, options, lists)

    def __str__(self):
        return " ".join(self._words)

    def __eq__(self, other):
        return isinstance(other, Limit) and self.form == other.form and self._words == other._words
