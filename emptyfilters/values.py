"""Questions about any values, and copies of them."""

KEPT = (
    "def", "if", "else", "for", "in", "break", "skip", "refuse", "take", "guard", "blank", "every", "none",
    "any", "all", "pick", "given", "or", "and", "not", "true", "false", "self",
)

WORD_LETTERS = 8


def is_integer(thing):
    """Whether a value is an integer; True and False are none."""
    return isinstance(thing, int) and not isinstance(thing, bool)


def is_word(thing):
    """Whether a value is a word: a short string of the letters a to z that is not kept."""
    if not isinstance(thing, str) or thing in KEPT:
        return False
    return 1 <= len(thing) <= WORD_LETTERS and all(["a" <= letter <= "z" for letter in thing])


def copied(thing):
    """An equal value that shares no list and no dict with the given one."""
    if isinstance(thing, list):
        return [copied(part) for part in thing]
    if isinstance(thing, tuple):
        return tuple([copied(part) for part in thing])
    if isinstance(thing, dict):
        return {key: copied(thing[key]) for key in thing}
    return thing
