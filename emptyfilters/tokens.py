"""The tokens of a line."""

LONG_SIGNS = ("!=", "<=", ">=", "|=", "&=")

MOST_DIGITS = 30


def run_end(text, at, low, high):
    """Where the characters from low to high that begin at a place end."""
    end = at
    while end < len(text) and low <= text[end] <= high:
        end += 1
    return end


def token_end(text, at):
    """Where the token that begins at a place ends."""
    end = run_end(text, at, "a", "z")
    if end > at:
        return end
    digits = at + 1 if text[at] == "-" else at
    end = run_end(text, digits, "0", "9")
    if end > digits:
        return end
    return at + 2 if text[at:at + 2] in LONG_SIGNS else at + 1


def tokens(text):
    """A list of pairs: each token, and the place of its first character."""
    found = []
    at = 0
    while at < len(text):
        end = token_end(text, at)
        if text[at] != " ":
            found.append((text[at:end], at))
        at = end
    return found


def is_number(token):
    """Whether a token is a number."""
    digits = token.removeprefix("-")
    if not digits or run_end(digits, 0, "0", "9") < len(digits) or len(digits) > MOST_DIGITS:
        return False
    return token == "0" or digits[0] != "0"
