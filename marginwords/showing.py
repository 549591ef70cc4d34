"""The SIGNS of a LEDGER, what touched and moved them, and where they stand."""

from marginwords.knowing import change_of
from marginwords.laying import slot_rows
from marginwords.traces import signs_of, slots_of, traces, whole_past


def all_signs(ledger):
    """All SIGNS, rising, SHOWN or not."""
    puts = [(name, deed) for name, hand, base, deed in ledger if deed[0] == "put"]
    return tuple(sign for name, deed in puts for sign in signs_of(name, deed))


def touches(ledger, sign):
    """The NAMES of the takes that took a SIGN and of the backs of these, rising."""
    found = traces(ledger)
    return tuple(name for name in found if sign in found[name][1] or sign in found[name][2])


def moves_of(ledger, sign):
    """The NAMES of the moves that moved a SIGN, rising."""
    # The SLOT that a put lays for a SIGN is written as the SIGN itself; no move's is.
    return tuple(slot[:2] for slot, parent, moved in slot_rows(ledger) if moved == sign and slot != sign)


def is_shown(ledger, sign):
    """Whether nothing touched a SIGN, or a back was the last to do so."""
    touched = touches(ledger, sign)
    return touched == () or change_of(ledger, touched[-1])[3][0] == "back"


def last_touches(ledger):
    """Under each SIGN that was ever touched its last TOUCH."""
    found = traces(ledger)
    return {sign: name for name in found for sign in found[name][1] + found[name][2]}


def slot_of(ledger, sign):
    """The SLOT in which a SIGN stands."""
    # Rows rise, so the SLOT that the greatest move laid for it comes last.
    return [slot for slot, parent, standing in slot_rows(ledger) if standing == sign][-1]


def slots_and_touches(ledger):
    """(slot, touch) for each SIGN, rising: the SLOT in which it stands, and its last TOUCH, None where it has none."""
    slots = slots_of(whole_past(ledger))
    last = last_touches(ledger)
    return tuple((slots[sign], last.get(sign)) for sign in all_signs(ledger))
