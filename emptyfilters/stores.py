"""Stores of rows, and trials, in which several deeds are done on a store or none."""

from emptyfilters.errors import BadRows, TooManyRows, WrongTable


def attempt(store, deeds, *, most=None):
    """Does some deeds in one trial; a list with a list for each deed of the rows that it took."""
    taken = []
    with Trial(store, most) as trial:
        for deed in deeds:
            taken.append(trial.do(deed))
    return taken


def attempted(store, step, *, most=None):
    """Calls a function of the caller with a trial, inside this trial; what the function returns."""
    with Trial(store, most) as trial:
        result = step(trial)
    return result


def rows_behind(deed, rows):
    """The rows that are there behind a deed."""
    changed = [deed.becomes(row) for row in rows]
    return tuple([row for row in changed if row is not None])


class Store:
    """A table and a list of its rows."""

    def __init__(self, table, rows):
        for at, row in enumerate(rows):
            if row not in table:
                raise BadRows(at)
        self.table = table
        # A tuple, which each deed replaces: so a loop over the rows and a trial keep the rows that they began with.
        self._rows = tuple(rows)

    def __len__(self):
        return len(self._rows)

    def __iter__(self):
        return iter(self._rows)

    def __contains__(self, thing):
        return thing in self.table and thing in self._rows

    def listed(self):
        """A list of its rows, in order."""
        return list(self._rows)

    def do(self, deed, *, most=None):
        """Does a deed that takes at most so many rows; a list of the rows that it took, as they were."""
        return self._done(deed, 0, most)

    def _done(self, deed, before, most):
        """Does a deed, if the rows that it takes are, with those taken before, at most so many."""
        if deed.table != self.table:
            raise WrongTable()
        taken = [row for row in self._rows if deed.takes(row)]
        count = before + len(taken)
        if most is not None and count > most:
            raise TooManyRows(count, most)
        self._rows = rows_behind(deed, self._rows)
        return taken


class Trial:
    """A context manager: if an error leaves it, the store has the rows that it had at the beginning."""

    def __init__(self, store, most):
        self.count = 0
        self._store = store
        self._most = most
        self._before = ()

    def __enter__(self):
        self._before = self._store._rows
        return self

    def __exit__(self, kind, value, trace):
        store = self._store
        if kind is not None:
            store._rows = self._before

    def do(self, deed):
        """Does a deed on the store, with its rows counted; a list of the rows that it took, as they were."""
        taken = self._store._done(deed, self.count, self._most)
        self.count = self.count + len(taken)
        return taken
