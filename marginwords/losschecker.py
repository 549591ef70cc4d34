"""A look at LOSS PAPERS, whoever wrote them."""

from marginwords.errors import NoPaper
from marginwords.holdchecker import lets_held
from marginwords.kinds import is_just, is_tuple_of
from marginwords.losing import last_taker, rows_of_held
from marginwords.sayings import unsays_of
from marginwords.spans import hang_of


def lets_loss(ledger, remark, name, thing):
    """True where the REMARK is lost with this NAME, and the thing is a LOSS PAPER of it."""
    hang_of(ledger, remark)
    if not is_tuple_of(2, thing) or not isinstance(thing[1], tuple):
        raise NoPaper("shape", -1)
    if unsays_of(ledger, remark) != []:
        raise NoPaper("unsaid", -1)
    holds, rows = thing
    right = rows_of_held(ledger, held_by(ledger, remark, holds))
    if len(rows) != len(right):
        raise NoPaper("many", -1)
    for k, row in enumerate(right):
        if row == () or not is_just(rows[k], row):
            raise NoPaper("row", k)
    if not is_just(name, last_taker(ledger, remark, right)):
        raise NoPaper("loser", -1)
    return True


def held_by(ledger, remark, holds):
    """The HELD SIGNS, of what has to be the HOLD PAPER."""
    try:
        return lets_held(ledger, remark, holds)
    except NoPaper:
        raise NoPaper("holds", -1) from None
