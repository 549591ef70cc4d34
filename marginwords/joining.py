"""LEDGERS joined, what is common to them, and PARTS."""

from marginwords.errors import NoJoin
from marginwords.knowing import branch_names, by_name, knowledge


def in_either(one, other):
    """The CHANGES of both, rising; where both have one of a name, that of the one."""
    whole = by_name(other)
    for change in one:
        whole[change[0]] = change
    return tuple(whole[name] for name in sorted(whole))


def joined(one, other):
    """The LEDGER that has all CHANGES of both."""
    whole = in_either(one, other)
    theirs = by_name(other)
    elders = knowledge(whole)
    for k, change in enumerate(whole):
        name = change[0]
        if theirs.get(name, change) != change:
            raise NoJoin(name, "unlike")
        # Nothing ahead is unlike, so elders tells of this one what it knows in its own LEDGER.
        ahead = branch_names(whole[:k], name[1])
        if not all(elder in elders[name] for elder in ahead):
            raise NoJoin(name, "branch")
    return whole


def common(one, other):
    """The greatest LEDGER that is a PART of both."""
    theirs = by_name(other)
    shared = {}
    for change in one:
        alike = theirs.get(change[0]) == change
        if alike and all(elder in shared for elder in change[2]):
            shared[change[0]] = change
    return tuple(shared.values())


def is_part(one, other):
    """Whether all CHANGES of the one are in the other, alike."""
    theirs = by_name(other)
    return all(theirs.get(change[0]) == change for change in one)
