"""Conducts: which sequences of integers some texts cannot tell apart, beside a row and options."""

from emptyfilters.gathered import Gathered
from emptyfilters.ways import Ways


class Conducts:
    """The conducts of the lists of some texts beside a row and options."""

    def __init__(self, texts, row, options):
        gathered = Gathered(texts)
        self._row = tuple(row)
        self._lists = gathered.form.lists
        self._ways = Ways(gathered, self._row, tuple(options))
        self._choices = self._ways.choices()

    def __len__(self):
        return len(self._choices)

    def _conduct(self, name, sequence):
        return self._ways.conduct(self._row, self._lists.index(name), sequence)

    def shortest(self, name):
        """A list of a shortest sequence for each conduct of a list, the shorter ones first."""
        return self._ways.shortest(self._lists.index(name))

    def least(self, name, values):
        """The shortest sequence with the same conduct as a sequence."""
        return self.shortest(name)[self._conduct(name, values)]

    def same(self, name, one, other):
        """Whether two sequences have the same conduct."""
        return self._conduct(name, one) == self._conduct(name, other)
