"""Conditions: objects with a value, blank, true or false, on each row of a table."""

from emptyfilters.errors import WrongTable
from emptyfilters.reading import condition_tree, condition_words
from emptyfilters.trees import code_of, code_words, joined, joined_all, negated
from emptyfilters.truths import is_taken, row_between, rows_apart, same_values, value_on


def with_tree(table, tree):
    """A new condition of a table with a tree."""
    made = Cond("blank", table)
    made._tree = tree
    made._words = None
    return made


def is_operand(thing):
    """Whether operators take something: a condition, or None in the place of a blank one."""
    return thing is None or isinstance(thing, Cond)


def tree_for(table, cond):
    """The tree of a condition of a table; None stands for a blank condition."""
    if cond is None:
        return None
    if cond.table != table:
        raise WrongTable()
    return cond._tree


def code_now(cond):
    """The code of a condition, as it is now."""
    return code_of(cond._tree)


class Cond:
    """A condition of a table; only the operators in place change it."""

    def __init__(self, text, table):
        words = condition_words(text, table.columns)
        self.table = table
        self._tree = condition_tree(words, table.columns)
        # None if the condition is not made from a text, or was changed in place: the tree gives its words then.
        self._words = tuple(words)

    @classmethod
    def every(cls, table):
        """A condition that is true on every row."""
        return cls("every", table)

    @classmethod
    def none(cls, table):
        """A condition that is false on every row."""
        return cls("none", table)

    @classmethod
    def blank(cls, table):
        """A blank condition."""
        return cls("blank", table)

    @classmethod
    def any_of(cls, table, *conds):
        """The `|` of any number of conditions."""
        return with_tree(table, joined_all("|", [tree_for(table, cond) for cond in conds]))

    @classmethod
    def all_of(cls, table, *conds):
        """The `&` of any number of conditions."""
        return with_tree(table, joined_all("&", [tree_for(table, cond) for cond in conds]))

    def __and__(self, other):
        if not is_operand(other):
            return NotImplemented
        return with_tree(self.table, joined("&", self._tree, tree_for(self.table, other)))

    def __or__(self, other):
        if not is_operand(other):
            return NotImplemented
        return with_tree(self.table, joined("|", self._tree, tree_for(self.table, other)))

    def __rand__(self, other):
        if other is not None:
            return NotImplemented
        return with_tree(self.table, self._tree)

    def __ror__(self, other):
        if other is not None:
            return NotImplemented
        return with_tree(self.table, self._tree)

    def __invert__(self):
        return with_tree(self.table, negated(self._tree))

    def __iand__(self, other):
        if not is_operand(other):
            return NotImplemented
        if other is not None:
            self._tree = joined("&", self._tree, tree_for(self.table, other))
            self._words = None
        return self

    def __ior__(self, other):
        if not is_operand(other):
            return NotImplemented
        if other is not None:
            self._tree = joined("|", self._tree, tree_for(self.table, other))
            self._words = None
        return self

    def __bool__(self):
        return self._tree is not None

    @property
    def is_blank(self):
        """Whether it is blank."""
        return self._tree is None

    def __call__(self, row):
        return value_on(code_of(self._tree), row)

    def __contains__(self, thing):
        return thing in self.table and is_taken(code_of(self._tree), thing)

    def __eq__(self, other):
        return isinstance(other, Cond) and self.table == other.table and same_values(
            self.table, code_of(self._tree), code_of(other._tree))

    def row_beyond(self, other):
        """A row that it takes and the other condition does not, or None."""
        return row_between(self.table, code_of(self._tree), code_of(tree_for(self.table, other)))

    def shown(self, column):
        """A pair of rows that differ in a column alone and have different values, or None."""
        return rows_apart(self.table, code_of(self._tree), self.table.columns.index(column))

    def _text_words(self):
        if self._words is not None:
            return list(self._words)
        return code_words(code_of(self._tree), self.table.columns)

    def __str__(self):
        return " ".join(self._text_words())

    def __repr__(self):
        return f"Cond({' '.join(self._text_words())})"
