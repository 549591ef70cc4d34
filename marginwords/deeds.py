"""DEEDS by kind, and the NAMES that they speak of."""

from marginwords.kinds import is_letters, is_name, is_number

# What follows the first word of a DEED, by kinds.
PARTS = {
    "put": ("number", "letters"),
    "take": ("number", "number"),
    "move": ("number", "number", "number"),
    "back": ("name",),
    "hang": ("number", "number", "edge", "letters"),
    "answer": ("name", "letters"),
    "settle": ("name",),
    "open": ("name",),
    "unsay": ("name",),
    "join": (),
}


def is_of_kind(kind, thing):
    """Whether a thing can be a part of this kind of a DEED."""
    if kind == "number":
        return is_number(thing)
    if kind == "letters":
        return is_letters(thing)
    if kind == "name":
        return is_name(thing)
    return thing == "shut" or thing == "wide"


def begins_deed(thing):
    """Whether it is the first word of a DEED."""
    return isinstance(thing, str) and thing in PARTS


def kinds_behind(word):
    """The kinds of what follows the first word of a DEED."""
    return PARTS[word]


def is_deed(thing):
    """Whether it is a DEED by kind, whether it fits anything or not."""
    if not isinstance(thing, tuple) or len(thing) == 0 or not begins_deed(thing[0]):
        return False
    kinds = kinds_behind(thing[0])
    if len(thing) != len(kinds) + 1:
        return False
    return all(is_of_kind(kind, part) for kind, part in zip(kinds, thing[1:]))


def names_in(deed):
    """The NAMES that a DEED speaks of."""
    kinds = kinds_behind(deed[0])
    return tuple(part for kind, part in zip(kinds, deed[1:]) if kind == "name")
