"""What sequences of integers do at the asks of some texts, beside a row and options.

A probe looks at one ask, with one integer as the element of the walk around it, one sequence as the form's other list,
and one value of the variable at the beginning. It has a state, which each integer at the end of the sequence changes.
Two sequences have the same conduct if all probes have the same states behind them.
"""

from emptyfilters.errors import TooMany
from emptyfilters.runs import OnRow, Run, value_for, walk_sign
from emptyfilters.scenes import Scene, holds_for

MOST_CHOICES = 24


def starts(ask):
    """A list of the states of the probes of an ask ahead of the first integer."""
    if ask.kind == "for":
        variable = ask.node[2][1]
        return [(None, value) for value in ([None] if variable is None else [None, True, False])]
    if ask.kind in ("any", "all"):
        return [None]
    return [ask.kind == "each"]


class Probe:
    """A look at an ask; the scene has the element of the walk around it, and the other list."""

    def __init__(self, ask, scene, start):
        self.start = start
        self._ask = ask
        self._scene = scene
        self._known = {}

    def behind(self, state, integer):
        """The state behind one more integer."""
        key = (state, integer)
        if key not in self._known:
            self._known[key] = self._found(state, integer)
        return self._known[key]

    def _found(self, state, integer):
        ask = self._ask
        if ask.kind == "for":
            return self._walked(state, integer)
        if ask.kind == "list":
            return True
        if ask.kind == "in":
            return state or self._scene.slots[ask.node[1][1]] == integer
        if ask.kind == "some":
            return state or holds_for(integer, ask.node, self._scene)
        if ask.kind == "each":
            return state and holds_for(integer, ask.node, self._scene)
        mode = OnRow()
        return mode.of_two(walk_sign(ask.kind), state, value_for(integer, ask.node, self._scene, mode))

    def _walked(self, state, integer):
        """How a `for` has ended, None if it goes on, and the value of its variable."""
        ending, value = state
        if ending is not None:
            return state
        _, _, facts, _, blocks = self._ask.node
        index, variable = facts
        scene = self._scene
        scene.worths = {variable: value}
        ending = Run(scene, OnRow()).step_for(integer, index, blocks[0])
        if ending == "refuse":
            return (ending, None)
        return ("break" if ending == "break" else None, scene.worths[variable])


class Way:
    """The conducts of one list: shortest sequences for them, and where one more integer leads from each."""

    def __init__(self, probes, integers):
        self.sequences = [()]
        # A dict for each conduct, from pictures to the conduct behind one more integer.
        self._moves = []
        states = [tuple([probe.start for probe in probes])]
        known = {states[0]: 0}
        while len(self._moves) < len(states):
            at = len(self._moves)
            moves = {}
            for picture in integers:
                integer = integers[picture]
                reached = tuple([probe.behind(state, integer) for probe, state in zip(probes, states[at])])
                if reached not in known:
                    known[reached] = len(states)
                    states.append(reached)
                    self.sequences.append((*self.sequences[at], integer))
                moves[picture] = known[reached]
            if len(states) > MOST_CHOICES:
                raise TooMany("choices")
            self._moves.append(moves)

    def conduct(self, pictures):
        """The index of the conduct of a sequence with some pictures."""
        at = 0
        for picture in pictures:
            at = self._moves[at][picture]
        return at


class Ways:
    """The conducts of all lists beside a row and options."""

    def __init__(self, gathered, row, options):
        self._gathered = gathered
        self._row = row
        self._options = options
        lists = range(len(gathered.form.lists))
        self._integers = [gathered.pictures(row, index) for index in lists]
        # Asks of a list with asks inside hang on the other list only as asks that are inside walks tell it apart.
        inner = [Way(self._probes(index, False, []), self._integers[index]) for index in lists]
        sequences = [way.sequences for way in inner]
        self._ways = [Way(self._all_probes(index, sequences), self._integers[index]) for index in lists]
        many = 1
        for way in self._ways:
            many = many * len(way.sequences)
        if many > MOST_CHOICES:
            raise TooMany("choices")

    def _all_probes(self, index, sequences):
        return [*self._probes(index, False, []), *self._probes(index, True, sequences)]

    def _probes(self, index, is_outer, sequences):
        """The probes of the asks of a list that have asks inside, or of those that have none."""
        asks = [ask for ask in self._gathered.asks if ask.list_at == index and ask.is_outer == is_outer]
        return [
            Probe(ask, scene, start)
            for ask in asks for scene in self._scenes(ask, sequences) for start in starts(ask)
        ]

    def _scenes(self, ask, sequences):
        """A scene for each integer as the element around an ask, or for each sequence as the other list."""
        lists = [() for _ in self._integers]
        if ask.is_outer:
            other = 1 - ask.list_at
            return [
                Scene(self._row, self._options, [*lists[:other], sequence, *lists[other + 1:]])
                for sequence in sequences[other]
            ]
        if ask.around is None:
            return [Scene(self._row, self._options, lists)]
        scenes = []
        for integer in list(self._integers[ask.around].values()):
            scene = Scene(self._row, self._options, lists)
            scene.slots[scene.first + ask.around] = integer
            scenes.append(scene)
        return scenes

    def shortest(self, index):
        """A list of a shortest sequence for each conduct of a list."""
        return list(self._ways[index].sequences)

    def conduct(self, row, index, sequence):
        """The index of the conduct of a sequence for a list; the row may be any of the same case."""
        pictures = [self._gathered.picture(row, index, integer) for integer in sequence]
        return self._ways[index].conduct(pictures)

    def choices(self):
        """A list of all choices, each a tuple with a shortest sequence for each list."""
        found = [()]
        for way in self._ways:
            found = [(*lists, sequence) for lists in found for sequence in way.sequences]
        return found
