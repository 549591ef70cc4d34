"""CHANGES by kind."""

from marginwords.deeds import is_deed
from marginwords.kinds import is_name, is_word


def is_base(thing):
    """Whether it is a tuple of NAMES, in any order."""
    return isinstance(thing, tuple) and all(is_name(name) for name in thing)


def is_change(thing):
    """Whether it is a tuple (name, hand, base, deed), each by kind."""
    if not isinstance(thing, tuple) or len(thing) != 4:
        return False
    name, hand, base, deed = thing
    return is_name(name) and is_word(hand) and is_base(base) and is_deed(deed)
