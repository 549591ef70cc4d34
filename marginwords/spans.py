"""REMARKS, and their SPANS."""

from marginwords.errors import NoName
from marginwords.knowing import change_of, known
from marginwords.order import slot_order
from marginwords.showing import slot_of
from marginwords.texts import signs


def remarks(ledger):
    """The NAMES of the REMARKS of a LEDGER, rising, unsaid ones too."""
    return tuple(name for name, hand, base, deed in ledger if deed[0] == "hang")


def hang_of(ledger, remark):
    """The hang of this NAME."""
    change = change_of(ledger, remark)
    if change[3][0] != "hang":
        raise NoName(remark)
    return change


def slot_at(ledger, place):
    """The SLOT of the SIGN at this place of the TEXT, () where there is no such place."""
    shown = signs(ledger)
    if not 0 <= place < len(shown):
        return ()
    return slot_of(ledger, shown[place])


def span(ledger, remark):
    """The SPAN of a REMARK: (edge, first, last)."""
    word, i, j, edge, letters = hang_of(ledger, remark)[3]
    before = known(ledger, remark)
    if edge == "shut":
        return (edge, slot_at(before, i), slot_at(before, j - 1))
    return (edge, slot_at(before, i - 1), slot_at(before, j))


def slots_in_span(ledger, remark):
    """The SLOTS that lie in the SPAN, in their ORDER."""
    edge, first, last = span(ledger, remark)
    order = slot_order(ledger)
    # Only a wide one lacks a bound: there it goes from before the first to behind the last.
    begin = -1 if first == () else order.index(first)
    end = len(order) if last == () else order.index(last)
    if edge == "shut":
        return order[begin:end + 1]
    return order[begin + 1:end]


def in_span(ledger, remark, slot):
    """Whether a SLOT of the LEDGER lies in the SPAN."""
    return slot in slots_in_span(ledger, remark)
