"""Verdicts: whether a builder stays within a limit; which rows it can take; and when it gives a blank condition."""

from emptyfilters.builders import run_of, takes_with
from emptyfilters.errors import NotReached
from emptyfilters.kinds import Kinds, stand
from emptyfilters.limits import allows
from emptyfilters.studies import Study, least_triple, size_of


def judge(builder, limit):
    """Whether a builder is within a limit, and what shows it."""
    study = Study([builder, limit])

    def is_beyond(row, options, lists):
        return takes_with(builder, row, options, lists) and not allows(limit, row, options, lists)

    return Verdict(study.as_table(), least_triple(study.each_case(), is_beyond))


def blank_inputs(builder):
    """Options and lists of the least size with which the run gives a blank condition, or None."""
    study = Study([builder])

    def is_blank_there(row, options, lists):
        run = run_of(builder, row, options, lists)
        return not run.is_refused and run.given is None

    triple = least_triple(study.each_case(), is_blank_there)
    return None if triple is None else triple[1:]


def taken_cases(study, builder):
    """A dict with the marks of the cases in which some run of a builder takes the row."""
    found = {}
    for marks in study.found:
        triples = study.found[marks].triples()
        if any([takes_with(builder, row, options, lists) for row, options, lists in triples]):
            found[marks] = True
    return found


class Verdict:
    """Whether a builder is within a limit: a table of cases, and what is beyond."""

    def __init__(self, cases, beyond):
        self.cases = cases
        self.beyond = beyond
        self.size = None if beyond is None else size_of(beyond[1], beyond[2])

    def __bool__(self):
        return self.beyond is None


class Reach:
    """The rows that some run of a builder takes."""

    def __init__(self, builder):
        study = Study([builder])
        self.cases = study.as_table()
        self._builder = builder
        self._study = study
        self._table = builder.form.table
        self._numbers = study.gathered.numbers
        # The stands of the rows that are reached: rows of one kind are, or none of them is.
        self._reached = {}
        self.missed = None
        taken = taken_cases(study, builder)
        for row in Kinds(self._table, self._numbers).each():
            if any([marks in taken for marks in study.marks_at(row)]):
                self._reached[stand(self._numbers, row)] = True
            else:
                self.missed = row

    def __contains__(self, thing):
        return thing in self._table and stand(self._numbers, thing) in self._reached

    def inputs(self, row):
        """Options and lists of the least size with which the run takes a row."""
        builder = self._builder

        def is_taken_there(at, options, lists):
            return takes_with(builder, at, options, lists)

        triple = least_triple(self._study.cases_at(row), is_taken_there)
        if triple is None:
            raise NotReached(row)
        return triple[1:]
