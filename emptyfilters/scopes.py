"""What the words of a text mean, and which of them may stand at a place.

What a word stands for in a run is found in a slot: there is one for each column, each option, and the element of each
list, in this order. One slot is enough for the elements of a list, as no walk over a list is inside another one over
it. The slots of parameters are below 0, until inputs of a call take their places.
"""

from emptyfilters.values import is_word

COLUMN = "column"
OPTION = "option"
LIST = "list"
FUNCTION = "function"
PARAMETER = "parameter"
ELEMENT = "element"
VARIABLE = "variable"


def element_slot(form, index):
    """The slot of the element of a list."""
    return len(form.table.columns) + len(form.options) + index


class Names:
    """The one use of each word of a text, and its functions."""

    def __init__(self, form):
        self.functions = {}
        self._uses = {}
        for use, words in ((COLUMN, form.table.columns), (OPTION, form.options), (LIST, form.lists)):
            for word in words:
                self._uses[word] = use

    def is_new(self, word):
        """Whether a token is a word that has no use yet."""
        return is_word(word) and word not in self._uses

    def settles(self, word, use):
        """Whether a token is a word with a use; one that has none yet gets it."""
        return is_word(word) and self._uses.setdefault(word, use) == use

    def of_use(self, use):
        """A list of the words with a use."""
        return [word for word in self._uses if self._uses[word] == use]


class Scope:
    """What may stand at a place of a text."""

    def __init__(self, names, form):
        self.names = names
        self.form = form
        # The lists of the walks around the place.
        self.walks = ()
        self.has_variables = True
        self._slots = {word: at for at, word in enumerate([*form.table.columns, *form.options])}

    def slot(self, word):
        """The slot of a column, option, element or parameter that may stand there, else None."""
        return self._slots.get(word)

    def list_index(self, word):
        """The index of a list, or None."""
        return self.form.lists.index(word) if word in self.form.lists else None

    def is_column(self, slot):
        """Whether a slot is that of a column."""
        return 0 <= slot < len(self.form.table.columns)

    def is_option(self, slot):
        """Whether a slot is that of an option."""
        return len(self.form.table.columns) <= slot < element_slot(self.form, 0)

    def names_element(self, word):
        """Whether the element of a walk there may have a name."""
        return word not in self._slots and self.names.settles(word, ELEMENT)

    def names_variable(self, word):
        """Whether a word is a variable and may stand there."""
        return self.has_variables and self.names.settles(word, VARIABLE)

    def within(self, word, index, has_variables):
        """The scope inside a walk over a list with an element."""
        inner = self._with_slots({word: element_slot(self.form, index)}, has_variables)
        inner.walks = (*self.walks, index)
        return inner

    def with_parameters(self, words):
        """The scope in a function with parameters."""
        return self._with_slots({word: -1 - at for at, word in enumerate(words)}, False)

    def _with_slots(self, slots, has_variables):
        inner = Scope(self.names, self.form)
        inner.walks = self.walks
        inner.has_variables = has_variables
        inner._slots = {**self._slots, **slots}
        return inner
