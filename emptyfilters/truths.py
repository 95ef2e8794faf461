"""On which rows conditions are true, by their codes; the code of a blank condition is None.

Many rows are looked at together: the marks of a condition that is not blank are a number with one bit for each row,
which is 1 where the condition is true.
"""

from emptyfilters.kinds import Kinds


def compares(left, sign, right):
    """Whether two integers stand to each other as a sign says."""
    if sign == "=":
        return left == right
    if sign == "!=":
        return left != right
    if sign == "<":
        return left < right
    if sign == "<=":
        return left <= right
    return left > right if sign == ">" else left >= right


def holds(test, row):
    """Whether a test is true on a row."""
    at, sign, to, number = test
    return compares(row[at], sign, number if to is None else row[to])


def marks_from(code, found, everywhere):
    """The marks of a condition, from those of its tests and those of `every`."""
    parts = []
    for item in code:
        if isinstance(item, tuple):
            parts.append(found[item])
        elif item == "~":
            parts.append(everywhere - parts.pop())
        elif item == "&":
            right = parts.pop()
            parts.append(parts.pop() & right)
        elif item == "|":
            right = parts.pop()
            parts.append(parts.pop() | right)
        else:
            parts.append(everywhere if item == "every" else 0)
    return parts[0]


def value_on(code, row):
    """The value of a condition on a row: None if it is blank, else True or False."""
    if code is None:
        return None
    found = {item: holds(item, row) for item in code if isinstance(item, tuple)}
    return marks_from(code, found, 1) == 1


def is_taken(code, row):
    """Whether a condition takes a row."""
    return value_on(code, row) is not False


def tests_in(codes):
    """A list of the tests in the codes of conditions, each once."""
    return list({item: True for code in codes for item in code if isinstance(item, tuple)})


def numbers_in(codes):
    """A list of the numbers in the codes of conditions."""
    return [test[3] for test in tests_in(codes) if test[2] is None]


def marks_on(codes, rows):
    """A list with the marks of each of some conditions on some rows."""
    found = {}
    for test in tests_in(codes):
        found[test] = sum([1 << at for at, row in enumerate(rows) if holds(test, row)])
    return [marks_from(code, found, (1 << len(rows)) - 1) for code in codes]


def same_values(table, one, other):
    """Whether two conditions have the same value on all rows of a table."""
    if one is None or other is None:
        return one is None and other is None
    codes = [one, other]
    first, second = marks_on(codes, Kinds(table, numbers_in(codes)).each())
    return first == second


def row_between(table, one, other):
    """A row that the one condition takes and the other does not, or None."""
    if other is None:
        return None
    codes = [["every"] if one is None else one, other]
    rows = Kinds(table, numbers_in(codes)).each()
    taken, others = marks_on(codes, rows)
    beyond = taken - (taken & others)
    for at, row in enumerate(rows):
        if beyond >> at & 1:
            return row
    return None


def rows_apart(table, code, at):
    """A pair of rows that differ in the column at an index alone and have different values, or None."""
    if code is None:
        return None
    # Rows that differ in the last column alone take in all ways of an integer beside the others; so that column is
    # moved to the index.
    kinds = Kinds(table, numbers_in([code])).each()
    rows = [(*kind[:at], kind[-1], *kind[at:-1]) for kind in kinds]
    marks = marks_on([code], rows)[0]
    firsts = {}
    for spot, kind in enumerate(kinds):
        first = firsts.setdefault(kind[:-1], spot)
        if marks >> first & 1 != marks >> spot & 1:
            return rows[first], rows[spot]
    return None
