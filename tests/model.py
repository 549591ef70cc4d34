"""The words of points [3], [4], [15] to [17] once more, as slowly and plainly as can be.

The tests hold the program against it; nothing here asks the program.
"""

import functools
import itertools


def by_name(ledger):
    return {change[0]: change for change in ledger}


def elders(ledger, name):
    """The set of the NAMES that the CHANGE of this NAME knows."""
    found = set()
    for elder in by_name(ledger)[name][2]:
        found |= {elder} | elders(ledger, elder)
    return found


def known(ledger, name):
    inside = elders(ledger, name)
    return tuple(change for change in ledger if change[0] in inside)


def tops(ledger):
    inside = set()
    for change in ledger:
        inside |= elders(ledger, change[0])
    return tuple(sorted({change[0] for change in ledger} - inside))


def roads(ledger):
    """All ROADS of a small LEDGER."""
    names = [change[0] for change in ledger]
    for road in itertools.permutations(names):
        if all(road.index(elder) < road.index(name) for name in names for elder in elders(ledger, name)):
            yield road


def unlike_pairs(one, other):
    return sum(
        (one.index(a) < one.index(b)) != (other.index(a) < other.index(b))
        for a, b in itertools.combinations(one, 2)
    )


def join_refusal(one, other):
    """None, or the (name, word) with which it is refused that two LEDGERS are joined."""
    ours, theirs = by_name(one), by_name(other)
    every = sorted(set(ours) | set(theirs))
    for name in every:
        if name in ours and name in theirs and ours[name] != theirs[name]:
            return name, "unlike"
        home = one if name in ours else other
        lesser = [each for each in every if each[1] == name[1] and each < name]
        if any(each not in elders(home, name) for each in lesser):
            return name, "branch"
    return None


def deed_of(ledger, name):
    return by_name(ledger)[name][3]


@functools.lru_cache(maxsize=None)
def slot_rows(ledger):
    """The rising tuple of (slot, parent, sign)."""
    rows = []
    for name, _, _, deed in ledger:
        if deed[0] not in ("put", "move"):
            continue
        before = known(ledger, name)
        shown = text(before)
        if deed[0] == "put":
            place, moved = deed[1], [(*name, k) for k in range(len(deed[2]))]
        else:
            place, moved = deed[3], shown[deed[1] : deed[2]]
        parent = () if place == 0 else slot_of(before, shown[place - 1])
        for k, sign in enumerate(moved):
            rows.append(((*name, k), parent, sign))
            parent = (*name, k)
    return tuple(sorted(rows))


@functools.lru_cache(maxsize=None)
def order(ledger):
    """The ORDER, by walking down from () through all that is beneath."""
    beneath = {}
    for slot, parent, _ in slot_rows(ledger):
        beneath.setdefault(parent, []).append(slot)

    def walk(slot):
        found = [] if slot == () else [slot]
        for child in sorted(beneath.get(slot, []), reverse=True):
            found += walk(child)
        return found

    return tuple(walk(()))


def signs(ledger):
    return tuple(slot for slot, _, sign in slot_rows(ledger) if slot == sign)


def moves_of(ledger, sign):
    return tuple(slot[:2] for slot, _, moved in slot_rows(ledger) if moved == sign and slot != sign)


def slot_of(ledger, sign):
    moves = moves_of(ledger, sign)
    if not moves:
        return sign
    (slot,) = [slot for slot, _, moved in slot_rows(ledger) if moved == sign and slot[:2] == max(moves)]
    return slot


def taken(ledger, name):
    """The SIGNS that the take of this NAME took."""
    _, i, j = deed_of(ledger, name)
    return text(known(ledger, name))[i:j]


def touches(ledger, sign):
    takes = {
        change[0] for change in ledger if change[3][0] == "take" and sign in taken(ledger, change[0])
    }
    backs = {change[0] for change in ledger if change[3][0] == "back" and change[3][1] in takes}
    return tuple(sorted(takes | backs))


def is_shown(ledger, sign):
    found = touches(ledger, sign)
    return not found or deed_of(ledger, found[-1])[0] == "back"


@functools.lru_cache(maxsize=None)
def text(ledger):
    """The SIGNS of the TEXT, in their order."""
    standing = {slot_of(ledger, sign): sign for sign in signs(ledger) if is_shown(ledger, sign)}
    return tuple(standing[slot] for slot in order(ledger) if slot in standing)
