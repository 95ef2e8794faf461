"""Whether two builders take the same rows."""

from emptyfilters.builders import takes_with
from emptyfilters.studies import Study, least_triple


def compare(one, other):
    """Whether two builders take the same rows, and what shows it."""
    study = Study([one, other])

    def are_apart(row, options, lists):
        return takes_with(one, row, options, lists) != takes_with(other, row, options, lists)

    return Comparison(study.as_table(), least_triple(study.each_case(), are_apart))


class Comparison:
    """Whether two builders take the same rows: a table of cases, and what parts them."""

    def __init__(self, cases, apart):
        self.cases = cases
        self.apart = apart

    def __bool__(self):
        return self.apart is None
