"""Whether a settled REMARK comes up again, and since when."""

from marginwords.knowing import known
from marginwords.stands import look, stand
from marginwords.talking import decided


def settle_of(ledger, remark):
    """The NAME of the settle by which a REMARK is decided, None where it is decided by none."""
    decision = decided(ledger, remark)
    if decision is None or decision[0] != "settle":
        return None
    return decision[1]


def is_up(ledger, remark):
    """Whether a settled REMARK has another LOOK than when it was settled."""
    settle = settle_of(ledger, remark)
    return settle is not None and look(ledger, remark) != look(known(ledger, settle), remark)


def caller(ledger, remark):
    """The NAME of the CHANGE since which a REMARK is UP, None where it isn't."""
    settle = settle_of(ledger, remark)
    if settle is None:
        return None
    before = known(ledger, settle)
    settled = look(before, remark)
    passed = {change[0]: True for change in before}
    passed[settle] = True
    others = [change[0] for change in ledger if change[0] not in passed]
    first = None
    for name in others:
        passed[name] = True
        here = tuple(change for change in ledger if change[0] in passed)
        if look(here, remark) == settled:
            # Whoever called it ahead of this, it is down again.
            first = None
        elif first is None:
            first = name
    return first


def word_of(ledger, remark):
    """The word of a REMARK: unsaid, lost, up, settled or open."""
    word = stand(ledger, remark)[0]
    if word != "there":
        return word
    if is_up(ledger, remark):
        return "up"
    return "open" if settle_of(ledger, remark) is None else "settled"
