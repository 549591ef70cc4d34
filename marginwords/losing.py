"""By which CHANGE a REMARK is lost."""

from marginwords.holding import held
from marginwords.knowing import knowledge
from marginwords.sayings import unsays_of
from marginwords.traces import traces


def last_rows(ledger):
    """Under each SIGN that was ever taken its LAST ROW."""
    found = traces(ledger)
    last = {}
    for name in found:
        rows, taken, brought = found[name]
        for sign in taken:
            last[sign] = last.get(sign, ()) + (name,)
        for sign in brought:
            last[sign] = ()
    return last


def last_row(ledger, sign):
    """The takes behind the last back of a SIGN, rising, () where it is SHOWN."""
    return last_rows(ledger).get(sign, ())


def rows_of_held(ledger, signs):
    """The LAST ROWS of these SIGNS, in their order."""
    last = last_rows(ledger)
    return tuple(last.get(sign, ()) for sign in signs)


def last_taker(ledger, remark, rows):
    """The LOSER, of the LAST ROWS of all HELD SIGNS, none of which is ()."""
    elders = knowledge(ledger)[remark]
    # What a take that is KNOWN hides was never seen by the REMARK, so it was not lost with it.
    strange = [row for row in rows if not any(name in elders for name in row)]
    return max([row[0] for row in strange])


def loser(ledger, remark):
    """The NAME of the CHANGE with which a REMARK is lost, None where it is there or unsaid."""
    rows = rows_of_held(ledger, held(ledger, remark))
    if unsays_of(ledger, remark) != [] or () in rows:
        return None
    return last_taker(ledger, remark, rows)
