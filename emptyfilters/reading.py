"""Texts of conditions."""

from emptyfilters.errors import BadCondition
from emptyfilters.tokens import is_number, tokens
from emptyfilters.trees import tree_of

# What may come next in a text.
ATOM = "an atom"
SIGN = "the sign of a test"
SIDE = "a column or a number"
NUMBER = "a number"
BEHIND = "what may stand behind an atom"


def after_atom_begins(word, columns):
    """What comes behind the first word of an atom, or None if no atom begins with it."""
    if word in ("~", "("):
        return ATOM
    if word in ("blank", "every", "none"):
        return BEHIND
    return SIGN if word in columns else None


def after_column(word):
    """What comes behind the sign of a test, or None if a word is no sign of a test."""
    if word in ("=", "!="):
        return SIDE
    return NUMBER if word in ("<", "<=", ">", ">=") else None


def after_atom_ends(word, depth):
    """What comes behind a word that stands behind an atom inside some brackets, or None if it cannot stand there."""
    if word in ("&", "|"):
        return ATOM
    return BEHIND if word == ")" and depth > 0 else None


def after(coming, word, depth, columns):
    """What comes behind a word, or None if it cannot stand where something else comes."""
    if coming == ATOM:
        return after_atom_begins(word, columns)
    if coming == SIGN:
        return after_column(word)
    if coming == BEHIND:
        return after_atom_ends(word, depth)
    return BEHIND if is_number(word) or (coming == SIDE and word in columns) else None


def wrong_place(found, length, columns):
    """The place of the first token with which no condition goes on, the length if it ends too early, or None."""
    coming = ATOM
    depth = 0
    for word, at in found:
        coming = after(coming, word, depth, columns)
        if coming is None:
            return at
        if word == "(":
            depth = depth + 1
        elif word == ")":
            depth = depth - 1
    return None if coming == BEHIND and depth == 0 else length


def condition_words(text, columns):
    """A list of the words of a condition."""
    if not isinstance(text, str):
        raise BadCondition(-1)
    found = tokens(text)
    at = wrong_place(found, len(text), columns)
    if at is not None:
        raise BadCondition(at)
    return [word for word, _ in found]


def test_of(words, columns):
    """The test with three words."""
    column, sign, side = words
    if side in columns:
        return (columns.index(column), sign, columns.index(side), None)
    return (columns.index(column), sign, None, int(side))


def condition_tree(words, columns):
    """The tree of a condition with some words."""
    items = []
    at = 0
    while at < len(words):
        if words[at] in columns:
            items.append(test_of(words[at:at + 3], columns))
            at += 3
        else:
            items.append(words[at])
            at += 1
    return tree_of(items)
