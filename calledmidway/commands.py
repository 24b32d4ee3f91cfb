"""Commands: the strings that a desk is told, taken apart into words."""

from calledmidway.errors import InvalidCommand
from calledmidway.words import read_word

# What the words behind the first one are: those that must stand there, and those that may follow any number of times.
SHAPES = {
    "book": (("name", "name"), ("name",)),
    "to": (("name", "name", "name", "integer", "length"), ()),
    "arrow": (("name", "name", "name"), ()),
    "bar": (("name", "name", "name"), ()),
    "first": (("name", "name"), ()),
    "rest": (("name", "name"), ()),
    "form": (("name", "name", "integer"), ("name", "integer")),
    "drop": (("name",), ()),
    "undo": ((), ()),
    "span": (("name", "name"), ()),
    "keeps": (("name", "name", "ratio"), ()),
    "peak": (("name", "name"), ()),
    "pace": (("name", "name", "name"), ()),
    "end": (("name",), ("name", "time")),
}


def _kinds_of(word, many):
    """Return what so many words behind the first one must be; None if there cannot be so many."""
    if word not in SHAPES:
        return None
    fixed, more = SHAPES[word]
    kinds = list(fixed)
    while len(kinds) < many and len(more) > 0:
        kinds = [*kinds, *more]
    return kinds if len(kinds) == many else None


def _has_twice(names):
    """Tell whether some name stands there twice."""
    return len(set(names)) < len(names)


def read_command(value):
    """Return the first word of a command, and the list of what the others tell; InvalidCommand for no command."""
    if not isinstance(value, str):
        raise InvalidCommand(value)
    word, *others = value.split(" ")
    kinds = _kinds_of(word, len(others))
    if kinds is None:
        raise InvalidCommand(value)
    found = [read_word(kind, other) for kind, other in zip(kinds, others)]
    if None in found or (word == "form" and _has_twice(found[1::2])):
        raise InvalidCommand(value)
    return word, found
