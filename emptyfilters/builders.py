"""Builders: small programs that build conditions out of options and lists."""

from emptyfilters.conds import with_tree
from emptyfilters.errors import BadBuilder, BadPlace, Refused
from emptyfilters.programs import Program
from emptyfilters.runs import Run, Written, run_on
from emptyfilters.scenes import Scene


def steps_of(builder):
    """The steps of the program of a builder."""
    return builder._program.steps


def lines_of(builder):
    """The lines of a builder."""
    return builder._program.lines


def run_of(builder, row, options, lists):
    """The run of a builder; its values are those on a row."""
    return run_on(steps_of(builder), row, options, lists)


def takes_with(builder, row, options, lists):
    """Whether the run of a builder takes a row."""
    run = run_of(builder, row, options, lists)
    return not run.is_refused and run.given is not False


def with_guard(line):
    """A line with `guard` before its first token."""
    words = line.lstrip(" ")
    return " " * (len(line) - len(words)) + "guard " + words


class Builder:
    """A form, and a text that says which condition inputs give."""

    def __init__(self, text, form):
        if not isinstance(text, str):
            raise BadBuilder(-1)
        self.form = form
        self._program = Program(text, form)

    def __len__(self):
        return len(self._program.lines)

    def __str__(self):
        return "\n".join(self._program.lines)

    def __eq__(self, other):
        return (isinstance(other, Builder) and self.form == other.form
                and self._program.lines == other._program.lines)

    def __call__(self, inputs):
        return self._condition(inputs)

    def run(self, **inputs):
        """The condition that the run gives, with the inputs as keywords."""
        return self._condition(inputs)

    def _condition(self, inputs):
        options, lists = self.form.checked(inputs)
        # The condition is written for all rows, so no column has an integer.
        columns = [None for _ in self.form.table.columns]
        run = Run(Scene(columns, options, lists), Written(len(columns)))
        run.execute(self._program.steps)
        if run.is_refused:
            raise Refused(run.lines[-1])
        return with_tree(self.form.table, run.given)

    def takes(self, row, inputs):
        """Whether the run takes a row."""
        options, lists = self.form.checked(inputs)
        return takes_with(self, row, options, lists)

    def trace(self, inputs):
        """A generator of the numbers of the lines that the run executes, in order."""
        options, lists = self.form.checked(inputs)
        # Which lines are executed does not depend on the row, so any row will do.
        lines = run_of(self, [0 for _ in self.form.table.columns], options, lists).lines
        yield from lines

    def places(self):
        """A list of the lines with an assignment or `take` and without `guard`."""
        guards = self._program.guards
        return [line for line in sorted(guards) if not guards[line]]

    def guarded(self, lines):
        """A builder with `guard` before some lines, too."""
        guards = self._program.guards
        for line in lines:
            if line not in guards:
                raise BadPlace(line)
        texts = []
        for at, text in enumerate(self._program.lines):
            texts.append(with_guard(text) if at in lines and not guards[at] else text)
        return Builder("\n".join(texts), self.form)
