"""What kind a thing is: NUMBERS, WORDS, LETTERS, NAMES, SIGNS."""

WORD_LENGTH = 8
LETTERS_LENGTH = 12


def is_tuple_of(many, thing):
    """Whether it is a tuple of so many things."""
    return isinstance(thing, tuple) and len(thing) == many


def is_two_tuples(thing):
    """Whether it is a tuple of two tuples."""
    return is_tuple_of(2, thing) and isinstance(thing[0], tuple) and isinstance(thing[1], tuple)


def is_rising(row):
    """Whether each of these, which can be compared, is greater than the one ahead of it."""
    return all(lesser < greater for lesser, greater in zip(row, row[1:]))


def is_number(thing):
    """Whether it is an int that is no truth."""
    return isinstance(thing, int) and not isinstance(thing, bool)


def is_place(many, thing):
    """Whether it is a NUMBER of one of so many places, counted from 0."""
    return is_number(thing) and 0 <= thing < many


def is_small(sign):
    """Whether a text of one sign is a letter from a to z."""
    return "a" <= sign <= "z"


def is_word(thing):
    """Whether it is a text of one to eight small letters."""
    if not isinstance(thing, str):
        return False
    return 1 <= len(thing) <= WORD_LENGTH and all(is_small(sign) for sign in thing)


def is_letters(thing):
    """Whether it is a text of one to twelve small letters and blanks."""
    if not isinstance(thing, str):
        return False
    return 1 <= len(thing) <= LETTERS_LENGTH and all(is_small(sign) or sign == " " for sign in thing)


def is_name(thing):
    """Whether it is a tuple of a NUMBER from 1 on and a WORD."""
    if not is_tuple_of(2, thing):
        return False
    return is_number(thing[0]) and thing[0] >= 1 and is_word(thing[1])


def is_sign(thing):
    """Whether it is by kind a SIGN or, what looks alike, a SLOT: (count, branch, k)."""
    if not is_tuple_of(3, thing):
        return False
    return is_name(thing[:2]) and is_number(thing[2]) and thing[2] >= 0


def is_just(thing, told):
    """Whether a thing is just what was told (tuples, NUMBERS, texts, None): True is no 1."""
    if isinstance(thing, tuple) and isinstance(told, tuple):
        return len(thing) == len(told) and all(is_just(one, other) for one, other in zip(thing, told))
    return not isinstance(thing, bool) and thing == told
