"""The errors that the package raises."""

from emptyfilters.values import copied

# Each error copies its fields: the caller may change the list that an error tells of.


class EmptyfiltersError(ValueError):
    """What all errors of the package are."""


class BadTable(EmptyfiltersError):
    """The columns are not one to three different words."""

    def __init__(self, at):
        EmptyfiltersError.__init__(self, f"no columns of a table: at {at}")
        self.at = copied(at)


class BadCondition(EmptyfiltersError):
    """A text is no condition."""

    def __init__(self, at):
        EmptyfiltersError.__init__(self, f"no condition: at {at}")
        self.at = copied(at)


class WrongTable(EmptyfiltersError):
    """Things that should have one table have different ones."""

    def __init__(self):
        EmptyfiltersError.__init__(self, "another table")


class BadRows(EmptyfiltersError):
    """An entry is no row of the table."""

    def __init__(self, at):
        EmptyfiltersError.__init__(self, f"no row of the table: at {at}")
        self.at = copied(at)


class BadColumn(EmptyfiltersError):
    """A name is no column of the table."""

    def __init__(self, name):
        EmptyfiltersError.__init__(self, f"no column: {name}")
        self.name = copied(name)


class TooManyRows(EmptyfiltersError):
    """Deeds would take more rows than they may."""

    def __init__(self, count, most):
        EmptyfiltersError.__init__(self, f"too many rows: {count}, at most {most} may be taken")
        self.count = copied(count)
        self.most = copied(most)


class BadForm(EmptyfiltersError):
    """An entry cannot be an option or a list of the form."""

    def __init__(self, name):
        EmptyfiltersError.__init__(self, f"no option or list of a form: {name}")
        self.name = copied(name)


class BadBuilder(EmptyfiltersError):
    """A text is no builder."""

    def __init__(self, line):
        EmptyfiltersError.__init__(self, f"no builder: line {line}")
        self.line = copied(line)


class BadLimit(EmptyfiltersError):
    """A text is no limit."""

    def __init__(self, at):
        EmptyfiltersError.__init__(self, f"no limit: at {at}")
        self.at = copied(at)


class TooMany(EmptyfiltersError):
    """There is more of something than there may be."""

    def __init__(self, what):
        EmptyfiltersError.__init__(self, f"too many: {what}")
        self.what = copied(what)


class BadInputs(EmptyfiltersError):
    """A key is no option and no list of the form, or its value is not one for it."""

    def __init__(self, name):
        EmptyfiltersError.__init__(self, f"no inputs: {name}")
        self.name = copied(name)


class Refused(EmptyfiltersError):
    """A run was refused."""

    def __init__(self, line):
        EmptyfiltersError.__init__(self, f"refused: line {line}")
        self.line = copied(line)


class BadPlace(EmptyfiltersError):
    """A line cannot have a guard."""

    def __init__(self, line):
        EmptyfiltersError.__init__(self, f"no place of a guard: line {line}")
        self.line = copied(line)


class WrongForm(EmptyfiltersError):
    """Texts that should have one form have different ones."""

    def __init__(self):
        EmptyfiltersError.__init__(self, "another form")


class NotReached(EmptyfiltersError):
    """No run takes a row."""

    def __init__(self, row):
        EmptyfiltersError.__init__(self, f"not reached: row {row}")
        self.row = copied(row)
