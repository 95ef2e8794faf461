"""A place in the words of a line or of a limit, which goes on as they are read."""


class WrongToken(Exception):
    """A token stands where it may not stand, or one is lacking; at is its index among the tokens."""

    def __init__(self, at):
        Exception.__init__(self, f"wrong token {at}")
        self.at = at


class Cursor:
    """A place in a list of words."""

    def __init__(self, words):
        self._words = tuple(words)
        self._place = 0

    def here(self):
        """The word at the place; behind the last one it is empty."""
        return self._words[self._place] if self._place < len(self._words) else ""

    def ahead(self):
        """The word behind the one at the place."""
        behind = self._place + 1
        return self._words[behind] if behind < len(self._words) else ""

    def fail(self):
        """Says that the word at the place may not stand there."""
        raise WrongToken(self._place)

    def step(self):
        """The word at the place, which goes on behind it."""
        word = self.here()
        self._place += 1
        return word

    def need(self, word):
        """Goes on behind a word, which must stand at the place."""
        if self.here() != word:
            self.fail()
        self._place += 1

    def need_end(self):
        """Makes sure that no word is left."""
        if self._place < len(self._words):
            self.fail()
