"""What is said of a REMARK, be it there, lost or unsaid."""

from marginwords.sayings import last_decision, said_of, unsays_of
from marginwords.spans import hang_of


def answers(ledger, remark):
    """The answers (name, hand, letters) of a REMARK, rising, without those that are unsaid."""
    hang_of(ledger, remark)
    told = said_of(ledger, ("answer",), remark)
    return tuple((name, hand, deed[2]) for name, hand, base, deed in told if unsays_of(ledger, name) == [])


def decided(ledger, remark):
    """By what a REMARK is decided: the word and the NAME of its greatest settle or open, None where it has none."""
    hang_of(ledger, remark)
    return last_decision(ledger, remark)
