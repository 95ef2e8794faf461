"""Cases: which rows and options some texts cannot tell apart, whatever the lists are."""

from emptyfilters.errors import TooMany
from emptyfilters.gathered import Gathered
from emptyfilters.kinds import Kinds, spots_beside

MOST_CASES = 40


def option_ways(gathered, row, at):
    """A dict from what the tests with an option can give beside a row to a value of it; missing, if that will do."""
    found = {}
    for value in [None, *spots_beside(gathered.numbers, row)]:
        found.setdefault(gathered.option_marks(row, at, value), value)
    return found


def all_options(gathered, row):
    """A list of pairs: marks of all options beside a row, and options that have them, as few given as will do."""
    found = [((), ())]
    for at in range(len(gathered.form.options)):
        ways = option_ways(gathered, row, at)
        found = [((*marks, mark), (*options, ways[mark])) for marks, options in found for mark in ways]
    return found


def pairs_of_cases(gathered):
    """A dict from the marks of each case to a pair of it with as few given options as will do."""
    found = {}
    for row in Kinds(gathered.form.table, gathered.numbers).each():
        base = gathered.row_marks(row)
        for marks, options in all_options(gathered, row):
            # What a missing option gives does not hang on the row, so the first pair has as few as any other.
            found.setdefault((base, marks), (row, options))
        if len(found) > MOST_CASES:
            raise TooMany("cases")
    return found


class Cases:
    """The cases of some texts."""

    def __init__(self, texts):
        self._gathered = Gathered(texts)
        self.numbers = self._gathered.numbers
        self._pairs = pairs_of_cases(self._gathered)

    def __len__(self):
        return len(self._pairs)

    def each(self):
        """A list with one pair (row, options) of each case."""
        return list(self._pairs.values())

    def same(self, one, other):
        """Whether two pairs (row, options) are alike."""
        return self._gathered.marks(*one) == self._gathered.marks(*other)
