"""The words of points [51] to [57] once more, by going through all there is: of small SIGN ROWS only."""

import itertools


def is_kept(one, other, row):
    """Whether each stands behind the one ahead of it in both."""
    pairs = list(itertools.pairwise(row))
    inside = all(sign in one and sign in other for sign in row)
    return inside and all(one.index(a) < one.index(b) and other.index(a) < other.index(b) for a, b in pairs)


def is_falling(one, other, row):
    """Whether each stands behind the one ahead of it in the one, ahead of it in the other."""
    pairs = list(itertools.pairwise(row))
    inside = len(row) > 0 and all(sign in one and sign in other for sign in row)
    return inside and all(one.index(a) < one.index(b) and other.index(a) > other.index(b) for a, b in pairs)


def longest_kept(one, other):
    common = [sign for sign in one if sign in other]
    for many in range(len(common), -1, -1):
        if any(is_kept(one, other, row) for row in itertools.combinations(common, many)):
            return many


def partitions(signs):
    """All ways to part a list into rows, each in the order of the list."""
    if not signs:
        yield []
        return
    for rows in partitions(signs[:-1]):
        for k in range(len(rows)):
            yield rows[:k] + [rows[k] + [signs[-1]]] + rows[k + 1 :]
        yield rows + [signs[-1:]]


def fewest_falling(one, other):
    common = [sign for sign in one if sign in other]
    return min(
        len(rows) for rows in partitions(common) if all(is_falling(one, other, tuple(row)) for row in rows)
    )


def next_rows(row, signs):
    """All rows that one STEP makes, where only these SIGNS can come in."""
    n = len(row)
    for p in range(n):
        left = row[:p] + row[p + 1 :]
        yield left
        for q in range(n):
            if q != p:
                yield left[:q] + (row[p],) + left[q:]
    for sign in signs:
        if sign not in row:
            for p in range(n + 1):
                yield row[:p] + (sign,) + row[p:]


def distances(one, signs):
    """Under each row that can be made of the one how few STEPS make it."""
    found = {one: 0}
    last = [one]
    while last:
        fresh = []
        for row in last:
            for made in next_rows(row, signs):
                if made not in found:
                    found[made] = found[row] + 1
                    fresh.append(made)
        last = fresh
    return found
