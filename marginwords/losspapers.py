"""LOSS PAPERS."""

from marginwords.holding import held
from marginwords.holdpapers import hold_paper
from marginwords.losing import loser, rows_of_held


def loss_paper(ledger, remark):
    """The LOSER and the LOSS PAPER of a REMARK that is lost, None of another one."""
    name = loser(ledger, remark)
    if name is None:
        return None
    rows = rows_of_held(ledger, held(ledger, remark))
    return (name, (hold_paper(ledger, remark), rows))
