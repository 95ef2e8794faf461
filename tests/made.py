"""Objects of the package made from texts that are data (plain.py), and forms that many tests use."""

from emptyfilters.builders import Builder
from emptyfilters.forms import Form
from emptyfilters.limits import Limit
from emptyfilters.tables import Table
from plain import Plain, Shape

SMALL = Shape(["id", "owner"], ["me"], ["ids"])
LARGE = Shape(["id", "owner"], ["me", "you"], ["xs", "ys"])
ONE = Shape(["id"], ["me"], ["xs"])
BARE = Shape(["id", "owner"], [], [])
OPTIONS = Shape(["id"], ["me", "you"], [])
LISTS = Shape(["id"], [], ["xs", "ys"])
WIDE = Shape(["a", "b", "z"], ["me"], ["xs"])

SHAPES = (SMALL, LARGE, ONE, BARE, OPTIONS, LISTS, WIDE)


def form_of(shape):
    return Form(Table(shape.columns), options=shape.options, lists=shape.lists)


def made(text):
    """The Builder or Limit of a text that is data."""
    return (Builder if isinstance(text, Plain) else Limit)(text.text, form_of(text.shape))


def built(text, shape=LARGE):
    return Builder(text, form_of(shape))


def limited(text, shape=LARGE):
    return Limit(text, form_of(shape))


def error_of(call, *arguments, **named):
    """The kind and the fields of the error that a call raises, or None."""
    try:
        call(*arguments, **named)
    except ValueError as error:
        fields = {name: field for name, field in vars(error).items()}
        return (type(error).__name__, *fields.values())
    return None


def size_of(options, lists):
    return sum(value is not None for value in options) + sum(len(integers) for integers in lists)
