"""The TEXT of a LEDGER, and the letters of its SIGNS."""

from marginwords.knowing import change_of
from marginwords.traces import text_of, whole_past


def letter_of(ledger, sign):
    """The letter of a SIGN, SHOWN or not."""
    word, place, letters = change_of(ledger, sign[:2])[3]
    return letters[sign[2]]


def signs(ledger):
    """The SIGNS of the TEXT, in their order."""
    return tuple(text_of(whole_past(ledger)))


def text(ledger):
    """The letters of the SIGNS of the TEXT."""
    return "".join([letter_of(ledger, sign) for sign in signs(ledger)])
