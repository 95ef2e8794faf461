"""Tables and what a row of them is."""

from emptyfilters.errors import BadTable
from emptyfilters.values import is_integer, is_word

MOST_COLUMNS = 3


def first_bad(names):
    """-1 for a wrong number of columns, else the index of the first entry that cannot be one, or None."""
    if not 1 <= len(names) <= MOST_COLUMNS:
        return -1
    for at, name in enumerate(names):
        if not is_word(name) or name in names[:at]:
            return at
    return None


class Table:
    """A table: one to three columns."""

    def __init__(self, columns):
        at = first_bad(columns)
        if at is not None:
            raise BadTable(at)
        self.columns = tuple(columns)

    def __len__(self):
        return len(self.columns)

    def __contains__(self, thing):
        if not isinstance(thing, tuple) or len(thing) != len(self.columns):
            return False
        return all([is_integer(part) for part in thing])

    def __eq__(self, other):
        return isinstance(other, Table) and self.columns == other.columns

    def __repr__(self):
        return f"Table({', '.join(self.columns)})"
