"""What some texts of one form hang on: their numbers, their tests, and their asks of lists.

A test is a tuple (how, left slot, sign, right slot, number), where how is `value` for one that may be blank, and
`holds` for one of which only counts whether it holds.
"""

from emptyfilters.builders import Builder, lines_of, steps_of
from emptyfilters.errors import TooMany, WrongForm
from emptyfilters.kinds import spots_beside
from emptyfilters.limits import root_of, words_of
from emptyfilters.nodes import WALKS
from emptyfilters.scenes import check_holds, tested
from emptyfilters.scopes import element_slot
from emptyfilters.tokens import is_number, tokens

MOST_NUMBERS = 4


def node_asks(node, around):
    """A list of the asks in a node."""
    kind, facts, parts = node
    inside = facts[0] if kind in WALKS else around
    inner = [ask for part in parts for ask in node_asks(part, inside)]
    if kind in WALKS or kind in ("in", "list"):
        return [Ask(kind, facts[0], node, around, len(inner) > 0), *inner]
    return inner


def step_asks(step, around):
    """A list of the asks in a step and in its blocks."""
    kind, _, facts, node, blocks = step
    inside = facts[0] if kind == "for" else around
    inner = [ask for block in blocks for part in block for ask in step_asks(part, inside)]
    if kind == "for":
        return [Ask(kind, facts[0], step, around, len(inner) > 0), *inner]
    return inner if node is None else [*node_asks(node, around), *inner]


def node_tests(node, form):
    """A list of the tests in a node."""
    kind, facts, parts = node
    if kind == "test":
        return [("value", *facts)]
    if kind == "check":
        return [("holds", *facts)]
    if kind == "in":
        return [("holds", facts[1], "=", element_slot(form, facts[0]), None)]
    return [test for part in parts for test in node_tests(part, form)]


def step_tests(step, form):
    """A list of the tests in a step and in its blocks."""
    _, _, _, node, blocks = step
    own = [] if node is None else node_tests(node, form)
    return [*own, *[test for block in blocks for part in block for test in step_tests(part, form)]]


def text_tests(text):
    """A list of the tests of a text."""
    if isinstance(text, Builder):
        return [test for step in steps_of(text) for test in step_tests(step, text.form)]
    return node_tests(root_of(text), text.form)


def text_asks(text):
    """A list of the asks of a text."""
    if isinstance(text, Builder):
        return [ask for step in steps_of(text) for ask in step_asks(step, None)]
    return node_asks(root_of(text), None)


def text_words(text):
    """A list of the tokens of a text."""
    if isinstance(text, Builder):
        return [word for line in lines_of(text) for word, _ in tokens(line)]
    return words_of(text)


def input_slot(test, columns):
    """The slot of the input in a test, or None; columns is the number of columns."""
    for slot in (test[1], test[3]):
        if slot is not None and slot >= columns:
            return slot
    return None


def gives(test, slots):
    """What a test gives."""
    facts = test[1:]
    return tested(facts, slots) if test[0] == "value" else check_holds(facts, slots)


def form_of(texts):
    """The form of some texts, which must have one."""
    form = texts[0].form
    for text in texts:
        if text.form != form:
            raise WrongForm()
    return form


class Ask:
    """An ask of a list."""

    def __init__(self, kind, index, node, around, is_outer):
        # `for`, or the kind of its node; the node of a `for` is its step.
        self.kind = kind
        self.list_at = index
        self.node = node
        # The list of the walk around it, or None.
        self.around = around
        # Whether asks of the other list are inside it.
        self.is_outer = is_outer


class Gathered:
    """What some texts hang on."""

    def __init__(self, texts):
        self.form = form_of(texts)
        words = [word for text in texts for word in text_words(text)]
        self.numbers = tuple(sorted(set([0, *[int(word) for word in words if is_number(word)]])))
        if len(self.numbers) > MOST_NUMBERS:
            raise TooMany("numbers")
        self.asks = [ask for text in texts for ask in text_asks(text)]
        self._tests = {}
        for text in texts:
            for test in text_tests(text):
                slot = input_slot(test, len(self.form.table.columns))
                # Each test once, by the slot of its input, if it has one.
                self._tests.setdefault(slot, {})[test] = True

    def _given_by(self, slot, slots):
        """What the tests with an input give; those without inputs, if slot is None."""
        return tuple([gives(test, slots) for test in self._tests.get(slot, {})])

    def option_marks(self, row, at, integer):
        """What the tests with an option give beside a row."""
        slot = len(row) + at
        return self._given_by(slot, [*row, *[None for _ in range(at)], integer])

    def picture(self, row, index, integer):
        """The picture of an integer for a list beside a row."""
        slot = element_slot(self.form, index)
        return self._given_by(slot, [*row, *[None for _ in range(slot - len(row))], integer])

    def pictures(self, row, index):
        """A dict from each picture for a list beside a row to an integer that has it."""
        found = {}
        for integer in spots_beside(self.numbers, row):
            found.setdefault(self.picture(row, index, integer), integer)
        return found

    def row_marks(self, row):
        """What the tests without inputs give on a row, and the pictures that there are beside it for each list."""
        pictures = [tuple(sorted(self.pictures(row, index))) for index in range(len(self.form.lists))]
        return self._given_by(None, list(row)), tuple(pictures)

    def marks(self, row, options):
        """What says which pairs are alike to one: those with the same marks."""
        given = [self.option_marks(row, at, integer) for at, integer in enumerate(options)]
        return (self.row_marks(row), tuple(given))
