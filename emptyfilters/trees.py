"""Values of conditions as trees, and as codes.

The tree of a condition is None if it is blank; otherwise it is a tuple of an item and of the trees that it joins.
An item is `every`, `none`, `~`, `&`, `|`, or a test: a tuple of the index of its column, its sign, and the index of
the column on the other side and None, or None and the number there.

A tree may be thousands deep, so nothing here calls itself: what a tree is like is found from its code, which is a
list of its items, each operator behind what it joins.
"""

# How tightly the words of a text hold together; what is no operator holds together by itself.
RANKS = {"(": 0, "|": 1, "&": 2, "~": 3}
WHOLE = 4


def joined(sign, left, right):
    """The tree of two conditions with `&` or `|` between them."""
    if left is None:
        return right
    if right is None:
        return left
    return (sign, left, right)


def negated(tree):
    """The tree of `~` and a condition."""
    return None if tree is None else ("~", tree)


def joined_all(sign, trees):
    """The tree of any number of conditions with `&` or `|` between them."""
    whole = None
    for tree in trees:
        whole = joined(sign, whole, tree)
    return whole


def code_of(tree):
    """The code of a tree; None for a blank condition."""
    if tree is None:
        return None
    code = []
    waiting = [tree]
    while waiting:
        node = waiting.pop()
        code.append(node[0])
        waiting.extend(node[1:])
    # So far each operator stands ahead of what it joins, and the right side ahead of the left one.
    return code[::-1]


def with_signs_behind(items):
    """The items of a text without its brackets, each operator behind what it joins."""
    placed = []
    waiting = []
    for item in items:
        if item in ("(", "~"):
            waiting.append(item)
        elif item == ")":
            while waiting[-1] != "(":
                placed.append(waiting.pop())
            waiting.pop()
        elif item in ("&", "|"):
            while waiting and RANKS[waiting[-1]] >= RANKS[item]:
                placed.append(waiting.pop())
            waiting.append(item)
        else:
            placed.append(item)
    return [*placed, *waiting[::-1]]


def tree_of(items):
    """The tree of a text, given as a list of tests and words."""
    trees = []
    for item in with_signs_behind(items):
        if item == "~":
            trees.append(negated(trees.pop()))
        elif item in ("&", "|"):
            right = trees.pop()
            trees.append(joined(item, trees.pop(), right))
        else:
            trees.append(None if item == "blank" else (item,))
    return trees[0]


def test_words(test, columns):
    """The words of a test."""
    at, sign, to, number = test
    return [columns[at], sign, str(number) if to is None else columns[to]]


def words_within(part, rank):
    """The words of a part of a text, in brackets if they would fall apart beside an operator of a rank."""
    words, own_rank = part
    return words if own_rank >= rank else ["(", *words, ")"]


def code_words(code, columns):
    """The words of a text whose condition has a code."""
    if code is None:
        return ["blank"]
    parts = []
    for item in code:
        if isinstance(item, tuple):
            parts.append((test_words(item, columns), WHOLE))
        elif item == "~":
            parts.append(([item, *words_within(parts.pop(), RANKS[item])], RANKS[item]))
        elif item in ("&", "|"):
            right = words_within(parts.pop(), RANKS[item])
            parts.append(([*words_within(parts.pop(), RANKS[item]), item, *right], RANKS[item]))
        else:
            parts.append(([item], WHOLE))
    return parts[0][0]
