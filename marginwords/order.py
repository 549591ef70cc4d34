"""The ORDER of the SLOTS of a LEDGER."""

from marginwords.laying import slot_rows
from marginwords.traces import order_of


def slot_order(ledger):
    """All SLOTS in their ORDER."""
    return tuple(order_of(slot_rows(ledger)))
