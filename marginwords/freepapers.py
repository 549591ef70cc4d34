"""FREE PAPERS."""

from marginwords.freeing import fewest_of, free_rows


def free_paper(ledger, remark):
    """A FREE PAPER of a REMARK that is there or lost: (names, rows)."""
    rows = free_rows(ledger, remark)
    return (fewest_of(rows), rows)
