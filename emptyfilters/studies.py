"""All cases of some texts, with the conducts in each: by them a table of cases is made, or looked through."""

from emptyfilters.cases import all_options, pairs_of_cases
from emptyfilters.gathered import Gathered
from emptyfilters.ways import Ways


def count_given(options):
    """How many options are given."""
    return len([value for value in options if value is not None])


def size_of(options, lists):
    """The size of inputs."""
    return count_given(options) + sum([len(integers) for integers in lists])


def least_triple(cases, is_sought):
    """A triple of the least size that is sought, among those of all choices of some cases, or None."""
    triples = [triple for case in cases for triple in case.triples()]
    for _, at in sorted([(size_of(triple[1], triple[2]), at) for at, triple in enumerate(triples)]):
        row, options, lists = triples[at]
        if is_sought(row, options, lists):
            return triples[at]
    return None


class Case:
    """A case: a pair of it, and the conducts of the lists there."""

    def __init__(self, gathered, pair):
        self.row, self.options = pair
        self.ways = Ways(gathered, self.row, self.options)

    def triples(self):
        """A list of triples (row, options, lists), one for each choice, the lists as short as will do."""
        return [(self.row, self.options, lists) for lists in self.ways.choices()]


class Study:
    """All cases of some texts."""

    def __init__(self, texts):
        self.gathered = Gathered(texts)
        pairs = pairs_of_cases(self.gathered)
        # By their marks.
        self.found = {marks: Case(self.gathered, pairs[marks]) for marks in pairs}

    def each_case(self):
        """A list of the cases."""
        return list(self.found.values())

    def as_table(self):
        """A table of cases for the texts."""
        lists = range(len(self.gathered.form.lists))
        return tuple([
            (case.row, case.options, tuple([tuple(case.ways.shortest(index)) for index in lists]))
            for case in self.each_case()
        ])

    def cases_at(self, row):
        """A list of the cases at a row, each with this row; the options may be any that there are."""
        return [Case(self.gathered, (row, options)) for _, options in all_options(self.gathered, row)]

    def marks_at(self, row):
        """A list of the marks of the cases at a row."""
        base = self.gathered.row_marks(row)
        return [(base, marks) for marks, _ in all_options(self.gathered, row)]
