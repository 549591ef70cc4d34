"""The SLOTS of a LEDGER."""

from marginwords.traces import rows_of, whole_past


def slot_rows(ledger):
    """A tuple (slot, parent, sign) for each SLOT, rising."""
    return tuple(rows_of(whole_past(ledger)))
