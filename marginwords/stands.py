"""Where a REMARK stands."""

from marginwords.holding import held
from marginwords.losing import loser
from marginwords.sayings import unsays_of
from marginwords.texts import signs


def parts_of(shown, inside):
    """The places (begin, end), end out, of the longest rows of shown SIGNS beside one another that are inside."""
    parts = []
    begin = 0
    for place, sign in enumerate(shown):
        if sign not in inside:
            if begin < place:
                parts.append((begin, place))
            begin = place + 1
    if begin < len(shown):
        parts.append((begin, len(shown)))
    return tuple(parts)


def stand(ledger, remark):
    """The STAND of a REMARK: there, with its parts; lost, or unsaid, with the NAME of what did it."""
    inside = held(ledger, remark)
    unsays = unsays_of(ledger, remark)
    if unsays != []:
        return ("unsaid", unsays[-1])
    parts = parts_of(signs(ledger), inside)
    if parts != ():
        return ("there", parts)
    return ("lost", loser(ledger, remark))


def look(ledger, remark):
    """The LOOK of a REMARK: the SIGNS of each of its parts."""
    inside = held(ledger, remark)
    if unsays_of(ledger, remark) != []:
        return ()
    shown = signs(ledger)
    return tuple(shown[begin:end] for begin, end in parts_of(shown, inside))
