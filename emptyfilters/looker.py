"""Tables of cases looked through."""

from emptyfilters.studies import Study, count_given
from emptyfilters.values import is_integer


def are_options(thing, form):
    """Whether a value has an integer or None for each option."""
    if not isinstance(thing, tuple) or len(thing) != len(form.options):
        return False
    return all([value is None or is_integer(value) for value in thing])


def is_sequence(thing):
    """Whether a value is a sequence of integers."""
    return isinstance(thing, tuple) and all([is_integer(part) for part in thing])


def are_lists(thing, form):
    """Whether a value has sequences of integers for each list."""
    if not isinstance(thing, tuple) or len(thing) != len(form.lists):
        return False
    return all([isinstance(entry, tuple) and all([is_sequence(part) for part in entry]) for entry in thing])


def is_triple(thing, form):
    """Whether a value is a triple (row, options, lists) as it stands in a table of cases."""
    if not isinstance(thing, tuple) or len(thing) != 3:
        return False
    return thing[0] in form.table and are_options(thing[1], form) and are_lists(thing[2], form)


def is_whole(entry, ways, row, index):
    """Whether sequences for a list are as short as will do for each conduct."""
    shortest = ways.shortest(index)
    met = set()
    for sequence in entry:
        conduct = ways.conduct(row, index, sequence)
        if len(sequence) == len(shortest[conduct]):
            met.add(conduct)
    return len(met) == len(shortest)


def are_whole(lists, ways, row):
    """Whether the sequences for all lists are."""
    return all([is_whole(entry, ways, row, index) for index, entry in enumerate(lists)])


def is_table(thing, texts):
    """Whether any value is a table of cases for some texts."""
    study = Study(texts)
    gathered = study.gathered
    if not isinstance(thing, tuple) or not all([is_triple(part, gathered.form) for part in thing]):
        return False
    met = {}
    for row, options, lists in thing:
        marks = gathered.marks(row, options)
        case = study.found[marks]
        if not are_whole(lists, case.ways, row):
            return False
        if count_given(options) == count_given(case.options):
            met[marks] = True
    return len(met) == len(study.found)
