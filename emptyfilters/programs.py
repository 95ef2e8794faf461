"""Programs: what texts of builders become.

A step of a program is a tuple (kind, line, facts, node, blocks), where blocks are tuples of steps. The kinds and their
facts: `=`, `|=`, `&=` (whether it is guarded, variable), `take` (whether it is guarded), `if` (none), `for` (list, its
variable or None), `break`, `skip` and `refuse` (none). An `if` has a second block, perhaps without steps.
"""

from emptyfilters.cursor import WrongToken
from emptyfilters.drafts import Draft, line_parts
from emptyfilters.errors import BadBuilder, TooMany
from emptyfilters.nodes import count_parts, expanded
from emptyfilters.scopes import VARIABLE

MOST_PARTS = 60
MOST_VARIABLES = 3


def drafted(lines, form):
    """The draft of all lines of a text."""
    draft = Draft(form)
    for at, text in enumerate(lines):
        try:
            draft.read(at, text)
        except WrongToken:
            raise BadBuilder(at) from None
    if not draft.ended:
        raise BadBuilder(len(lines))
    return draft


def steps_within(block):
    """A list of the steps in a block, with those of all blocks in it."""
    return [*block.steps, *[found for step in block.steps for inner in step.blocks for found in steps_within(inner)]]


def check_bounds(draft):
    """Raises TooMany for a draft with too many parts or variables."""
    functions = draft.names.functions
    nodes = [step.node for step in steps_within(draft.top) if step.node is not None]
    counts = [sum([count_parts(node, functions) for node in nodes])]
    for name in functions:
        counts.append(functions[name].count)
    if max(counts) > MOST_PARTS:
        raise TooMany("parts")
    if len(draft.names.of_use(VARIABLE)) > MOST_VARIABLES:
        raise TooMany("variables")


def facts_of(step):
    """The facts of a step."""
    if step.kind == "for":
        return (step.list_at, step.blocks[0].variable)
    if step.kind == "take":
        return (step.has_guard,)
    return () if step.variable is None else (step.has_guard, step.variable)


def finished(block, functions):
    """The steps of a block as a program."""
    steps = []
    for step in block.steps:
        node = None if step.node is None else expanded(step.node, functions, [])
        blocks = [finished(inner, functions) for inner in step.blocks]
        if step.kind == "if" and len(blocks) == 1:
            blocks.append(())
        steps.append((step.kind, step.line, facts_of(step), node, tuple(blocks)))
    return tuple(steps)


def plain_line(text):
    """A line with one space between two tokens and none at its end."""
    spaces, words = line_parts(text)
    return " " * spaces + " ".join(words)


class Program:
    """A text of a builder: its lines, which of them may have a guard, and its steps."""

    def __init__(self, text, form):
        lines = text.split("\n")
        draft = drafted(lines, form)
        check_bounds(draft)
        self.lines = [plain_line(line) for line in lines]
        # For the lines with an assignment or `take`: whether they have a guard.
        self.guards = draft.guards
        self.steps = finished(draft.top, draft.names.functions)
