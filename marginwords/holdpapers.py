"""HOLD PAPERS."""

from marginwords.holding import hold_entries
from marginwords.order import slot_order


def hold_paper(ledger, remark):
    """The HOLD PAPER of a LEDGER and a REMARK: (order, entries)."""
    entries = hold_entries(ledger, remark)
    return (slot_order(ledger), tuple(entries))
