"""SIGN ROWS held against one another."""


def common_places(one, other):
    """Under each COMMON SIGN, as they stand in the one, its places in the one and in the other."""
    theirs = {sign: place for place, sign in enumerate(other)}
    return {sign: (place, theirs[sign]) for place, sign in enumerate(one) if sign in theirs}
