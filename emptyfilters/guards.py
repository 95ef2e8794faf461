"""Where guards are needed to keep a builder within a limit."""

from emptyfilters.errors import TooMany, WrongForm
from emptyfilters.judging import judge

MOST_PLACES = 3


def sets_of(places, many):
    """A list, ascending, of all sets of so many places, each a tuple, ascending."""
    if many == 0:
        return [()]
    found = []
    for at, place in enumerate(places):
        found.extend([(place, *rest) for rest in sets_of(places[at + 1:], many - 1)])
    return found


def least_guards(builder, limit):
    """The sets with the fewest places by which a builder is within a limit."""
    if builder.form != limit.form:
        raise WrongForm()
    places = builder.places()
    if len(places) > MOST_PLACES:
        raise TooMany("places")
    bad = {}
    for many in range(len(places) + 1):
        verdicts = {chosen: judge(builder.guarded(chosen), limit) for chosen in sets_of(places, many)}
        good = [chosen for chosen in verdicts if verdicts[chosen].beyond is None]
        if good:
            return Guards(good, bad)
        for chosen in verdicts:
            bad[chosen] = verdicts[chosen].beyond
    return Guards([], bad)


class Guards:
    """The sets of places that keep a builder within a limit, and what is beyond it with fewer places."""

    def __init__(self, good, bad):
        self._good = list(good)
        self._bad = {chosen: bad[chosen] for chosen in bad}

    @property
    def sets(self):
        """A list, ascending, of all good sets with the fewest places."""
        return list(self._good)

    @property
    def bad(self):
        """A dict from each set with fewer places to a triple with which the builder is beyond the limit."""
        return {chosen: self._bad[chosen] for chosen in self._bad}

    def __bool__(self):
        return bool(self._good)
