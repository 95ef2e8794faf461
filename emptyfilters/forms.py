"""Forms: which options and lists there are; and inputs of a form."""

from emptyfilters.errors import BadForm, BadInputs, TooMany
from emptyfilters.values import is_integer, is_word


def check_names(names, columns):
    """Raises BadForm for the first name that is not a word, is a column, or repeats an earlier one."""
    for at, name in enumerate(names):
        if not is_word(name) or name in columns or name in names[:at]:
            raise BadForm(name)


def is_option_value(thing):
    """Whether an option may have a value."""
    return thing is None or is_integer(thing)


def is_list_value(thing):
    """Whether a list of a form may have a value."""
    return isinstance(thing, (list, tuple)) and all([is_integer(part) for part in thing])


class Form:
    """A table, options and lists."""

    OPTIONS = 2
    LISTS = 2

    def __init__(self, table, *, options=(), lists=()):
        check_names([*options, *lists], table.columns)
        if len(options) > Form.OPTIONS:
            raise TooMany("options")
        if len(lists) > Form.LISTS:
            raise TooMany("lists")
        self.table = table
        self.options = tuple(options)
        self.lists = tuple(lists)

    def __eq__(self, other):
        return (isinstance(other, Form) and self.table == other.table and self.options == other.options
                and self.lists == other.lists)

    def checked(self, inputs):
        """Inputs as a tuple: the value of each option, and the integers of each list."""
        for name in sorted(inputs):
            if not self._fits(name, inputs[name]):
                raise BadInputs(name)
        options = tuple([inputs.get(name) for name in self.options])
        return options, tuple([tuple(inputs.get(name, ())) for name in self.lists])

    def _fits(self, name, thing):
        """Whether a name may have a value in inputs."""
        if name in self.options:
            return is_option_value(thing)
        return name in self.lists and is_list_value(thing)

    def inputs(self, options, lists):
        """Inputs as a dict, from the values of all options and the integers of all lists."""
        named = dict(zip(self.options, options))
        for name, integers in zip(self.lists, lists):
            named[name] = list(integers)
        return named
