"""STAND PAPERS."""

from marginwords.holdpapers import hold_paper
from marginwords.losspapers import loss_paper
from marginwords.showing import slots_and_touches


def stand_paper(ledger, remark):
    """The STAND PAPER of a LEDGER and a REMARK: (holds, rows, lost)."""
    holds = hold_paper(ledger, remark)
    loss = loss_paper(ledger, remark)
    return (holds, slots_and_touches(ledger), () if loss is None else loss)
