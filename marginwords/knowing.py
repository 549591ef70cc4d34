"""What knows what in a LEDGER: told by names and bases alone."""

from marginwords.errors import NoName
from marginwords.kinds import is_name


def names_of(ledger):
    """The NAMES of all CHANGES of a LEDGER, rising as these do."""
    return tuple(change[0] for change in ledger)


def by_name(ledger):
    """The CHANGES of a LEDGER, each under its NAME."""
    return {change[0]: change for change in ledger}


def elders_by(base, found):
    """The NAMES of a base and all that these know, as keys of a dict; what they know was found under them."""
    elders = {name: True for name in base}
    for name in base:
        for elder in found[name]:
            elders[elder] = True
    return elders


def knowledge(ledger):
    """Under each NAME of a LEDGER the NAMES that its CHANGE knows, as keys of a dict."""
    found = {}
    for change in ledger:
        # Names rise with knowing: what a base names has been found already.
        found[change[0]] = elders_by(change[2], found)
    return found


def next_count(elders):
    """The count of a CHANGE that knows these NAMES and no others."""
    return 1 + max([name[0] for name in elders], default=0)


def change_of(ledger, name):
    """The CHANGE of this NAME."""
    # (True, "a") equals (1, "a"), but it is no NAME.
    if is_name(name):
        for change in ledger:
            if change[0] == name:
                return change
    raise NoName(name)


def known(ledger, name):
    """The LEDGER that is KNOWN to the CHANGE of this NAME."""
    change = change_of(ledger, name)
    elders = knowledge(ledger)[change[0]]
    return tuple(each for each in ledger if each[0] in elders)


def knows(ledger, one, other):
    """Whether the CHANGE of the one NAME knows that of the other."""
    knower = change_of(ledger, one)
    elder = change_of(ledger, other)
    return elder[0] in knowledge(ledger)[knower[0]]


def tops(ledger):
    """The NAMES of the CHANGES that no other one knows."""
    # What is known at all stands in some base: in that of the next one that knows it.
    elders = {name: True for change in ledger for name in change[2]}
    return tuple(name for name in names_of(ledger) if name not in elders)


def branch_names(ledger, branch):
    """The NAMES of all CHANGES of this branch."""
    return tuple(name for name in names_of(ledger) if name[1] == branch)


def upto(ledger, name):
    """The LEDGER of all CHANGES of names no greater."""
    return tuple(change for change in ledger if change[0] <= name)


def without(ledger, names):
    """The LEDGER that is left without these CHANGES and all that know one of them."""
    gone = {name: True for name in names}
    left = []
    for change in ledger:
        # Whoever knows one that is gone has in its base one that is gone by now.
        if change[0] in gone or any(elder in gone for elder in change[2]):
            gone[change[0]] = True
        else:
            left.append(change)
    return tuple(left)
