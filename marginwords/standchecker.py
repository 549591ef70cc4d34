"""A look at STAND PAPERS, whoever wrote them."""

from marginwords.errors import NoPaper
from marginwords.holdchecker import lets_held
from marginwords.kinds import is_just, is_name, is_tuple_of
from marginwords.losschecker import lets_loss
from marginwords.showing import slots_and_touches
from marginwords.spans import hang_of
from marginwords.stands import stand


def lets_stand(ledger, remark, thing):
    """The STAND of the REMARK, where the thing is its STAND PAPER."""
    hang_of(ledger, remark)
    if not is_tuple_of(3, thing):
        raise NoPaper("shape", -1)
    holds, rows, lost = thing
    lets_held(ledger, remark, holds)
    look_at_rows(slots_and_touches(ledger), rows)
    told = stand(ledger, remark)
    if told[0] == "lost":
        look_at_lost(ledger, remark, lost)
    elif not is_just(lost, ()):
        raise NoPaper("lost", -1)
    return told


def look_at_rows(right, rows):
    """Refuse what isn't, for each SIGN, its SLOT and its last TOUCH."""
    if not is_tuple_of(len(right), rows):
        raise NoPaper("rows", -1)
    for k, (slot, touch) in enumerate(right):
        if not is_tuple_of(2, rows[k]):
            raise NoPaper("row", k)
        if not is_just(rows[k][0], slot):
            raise NoPaper("slot", k)
        if not is_just(rows[k][1], touch):
            raise NoPaper("touch", k)


def look_at_lost(ledger, remark, lost):
    """Refuse what is no NAME with a LOSS PAPER of the REMARK and this NAME."""
    if not is_tuple_of(2, lost) or not is_name(lost[0]):
        raise NoPaper("lost", -1)
    lets_loss(ledger, remark, lost[0], lost[1])
