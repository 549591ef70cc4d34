"""ROADS: orders in which the CHANGES of a LEDGER may have come."""

from marginwords.kinds import is_name
from marginwords.knowing import by_name, names_of


def is_road(ledger, thing):
    """Whether it has each NAME of the LEDGER once, behind all that its CHANGE knows."""
    if not isinstance(thing, tuple) or len(thing) != len(ledger):
        return False
    changes = by_name(ledger)
    passed = {}
    for name in thing:
        if not is_name(name) or name not in changes or name in passed:
            return False
        # Those of its base came behind all that they know, so these needn't be asked for.
        if not all(elder in passed for elder in changes[name][2]):
            return False
        passed[name] = True
    return True


def road_by_names(ledger):
    """The ROAD of all NAMES rising."""
    return names_of(ledger)


def exchanged(road, k):
    """The tuple in which the NAMES at places k and k + 1 have changed places."""
    return road[:k] + (road[k + 1], road[k]) + road[k + 2:]


def unlike_pairs(one, other):
    """How many pairs of NAMES stand otherwise in the other ROAD than in the one."""
    place = {name: k for k, name in enumerate(other)}
    many = 0
    for k, name in enumerate(one):
        many += len([ahead for ahead in one[:k] if place[ahead] > place[name]])
    return many
