"""CHANGES made on a LEDGER, and laid on one."""

from marginwords.changes import is_change
from marginwords.deeds import is_deed
from marginwords.errors import NoChange
from marginwords.fitting import misfit
from marginwords.kinds import is_word
from marginwords.knowing import names_of, next_count, tops
from marginwords.ledgers import lets_ledger


def made(ledger, branch, hand, deed):
    """The CHANGE that a hand makes so on a branch, that knows all of the LEDGER."""
    if not is_word(branch):
        raise NoChange("branch")
    if not is_word(hand):
        raise NoChange("hand")
    if not is_deed(deed):
        raise NoChange("deed")
    word = misfit(ledger, hand, deed)
    if word is not None:
        raise NoChange(word)
    return ((next_count(names_of(ledger)), branch), hand, tops(ledger), deed)


def laid_on(ledger, change):
    """The LEDGER that has this CHANGE, too, at its place by names."""
    ahead = ledger
    if is_change(change):
        ahead = tuple(each for each in ledger if each[0] <= change[0])
    whole = ahead + (change,) + ledger[len(ahead):]
    lets_ledger(whole)
    return whole
