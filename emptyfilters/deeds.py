"""Deeds: what becomes of the rows that a condition takes."""

from emptyfilters.conds import code_now
from emptyfilters.errors import BadColumn
from emptyfilters.truths import is_taken


class Deed:
    """A deed that leaves each row as it is."""

    def __init__(self, condition):
        self.table = condition.table
        # Not the condition itself, which may be changed in place later.
        self._code = code_now(condition)

    def takes(self, row):
        """Whether its condition takes a row."""
        return is_taken(self._code, row)

    def becomes(self, row):
        """What becomes of a row: here the row."""
        return row


class Delete(Deed):
    """A deed that removes each row that its condition takes."""

    def __init__(self, condition):
        Deed.__init__(self, condition)

    def becomes(self, row):
        """None for a row that it takes, otherwise the row."""
        return None if self.takes(row) else row


class Update(Deed):
    """A deed that gives each row that its condition takes new values in some columns."""

    def __init__(self, condition, changes):
        for name in sorted(changes):
            if name not in condition.table.columns:
                raise BadColumn(name)
        Deed.__init__(self, condition)
        self._changes = dict(changes)

    def becomes(self, row):
        """A row that it takes with the new values, otherwise the row."""
        if not self.takes(row):
            return row
        return tuple([self._changes.get(column, part) for column, part in zip(self.table.columns, row)])
