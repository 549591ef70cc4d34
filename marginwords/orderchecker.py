"""A look at ORDERS, whoever wrote them."""

from marginwords.errors import NoPaper
from marginwords.kinds import is_sign
from marginwords.laying import slot_rows


def lets_order(ledger, thing):
    """True where the thing is the ORDER of the LEDGER."""
    if not isinstance(thing, tuple):
        raise NoPaper("shape", -1)
    parents = {slot: parent for slot, parent, sign in slot_rows(ledger)}
    opened = []
    # Under each PARENT the entry beneath it that came last: as they fall, the least one.
    least = {}
    passed = {}
    for k, entry in enumerate(thing):
        if not is_sign(entry) or entry not in parents or entry in passed:
            raise NoPaper("slot", k)
        parent = parents[entry]
        if parent != () and parent not in opened:
            raise NoPaper("parent", k)
        if least.get(parent, entry) < entry:
            raise NoPaper("fall", k)
        least[parent] = entry
        passed[entry] = True
        opened = still_open(opened, parent) + [entry]
    if len(passed) < len(parents):
        raise NoPaper("few", -1)
    return True


def still_open(opened, parent):
    """The row of OPEN SLOTS up to the PARENT of an entry that is let by."""
    if parent == ():
        return []
    return opened[:opened.index(parent) + 1]
