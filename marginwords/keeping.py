"""What two SIGN ROWS keep of one another."""

from marginwords.rows import common_places


def levels(one, other):
    """Under each COMMON SIGN, as they stand in the one, the length of the longest row KEPT that ends with it."""
    places = common_places(one, other)
    found = {}
    for sign in places:
        ahead = [found[each] for each in found if places[each][1] < places[sign][1]]
        found[sign] = 1 + max(ahead, default=0)
    return found


def kept(one, other):
    """A row KEPT of the two, as long as can be."""
    found = levels(one, other)
    wanted = max(list(found.values()), default=0)
    row = []
    # From its end on: those of one level fall, so where a SIGN can follow one of the next lower level at all,
    # it can follow the last one ahead of it.
    for sign in reversed(list(found)):
        if found[sign] == wanted:
            row.append(sign)
            wanted -= 1
    return tuple(reversed(row))


def falling_rows(one, other):
    """FALLING ROWS that have each COMMON SIGN once, as few as can be."""
    rows = {}
    found = levels(one, other)
    # Of two with one level the later one can't follow the earlier one, so it stands ahead of it in the other.
    for sign in found:
        rows[found[sign]] = rows.get(found[sign], ()) + (sign,)
    return tuple(rows.values())


def keep_paper(one, other):
    """A KEEP PAPER of the two: (kept, rows)."""
    return (kept(one, other), falling_rows(one, other))
