"""A look at KEEP PAPERS, whoever wrote them."""

from marginwords.errors import NoPaper
from marginwords.kinds import is_sign, is_two_tuples
from marginwords.rows import common_places


def lets_kept(one, other, thing):
    """How many SIGNS are kept, where the thing is a KEEP PAPER of the two SIGN ROWS."""
    if not is_two_tuples(thing):
        raise NoPaper("shape", -1)
    row, rows = thing
    places = common_places(one, other)
    look_at_kept(places, row)
    look_at_rows(places, rows)
    if len(rows) != len(row):
        raise NoPaper("many", -1)
    return len(row)


def is_common(places, thing):
    """Whether it is a COMMON SIGN."""
    return is_sign(thing) and thing in places


def follows(places, ahead, sign):
    """Whether a SIGN stands behind another one in both rows."""
    return places[ahead][0] < places[sign][0] and places[ahead][1] < places[sign][1]


def falls(places, ahead, sign):
    """Whether a SIGN stands behind another one in the one row, ahead of it in the other."""
    return places[ahead][0] < places[sign][0] and places[ahead][1] > places[sign][1]


def look_at_kept(places, row):
    """Refuse what is no row KEPT."""
    for k, sign in enumerate(row):
        if not is_common(places, sign) or (k > 0 and not follows(places, row[k - 1], sign)):
            raise NoPaper("kept", k)


def is_falling(places, thing):
    """Whether it is a FALLING ROW."""
    if not isinstance(thing, tuple) or thing == () or not all(is_common(places, sign) for sign in thing):
        return False
    return all(falls(places, ahead, sign) for ahead, sign in zip(thing, thing[1:]))


def look_at_rows(places, rows):
    """Refuse what are no FALLING ROWS that have each COMMON SIGN just once."""
    for k, row in enumerate(rows):
        if not is_falling(places, row):
            raise NoPaper("row", k)
    passed = {}
    for k, row in enumerate(rows):
        # No SIGN is twice in one row, as each stands behind the one ahead.
        if any(sign in passed for sign in row):
            raise NoPaper("twice", k)
        for sign in row:
            passed[sign] = True
    for sign in places:
        if sign not in passed:
            raise NoPaper("lacks", places[sign][0])
