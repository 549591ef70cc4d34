"""Whether a DEED FITS a LEDGER, and why not."""

from marginwords.knowing import by_name, tops
from marginwords.sayings import last_decision, unsays_of
from marginwords.texts import signs

# Under the first word of a DEED that speaks of a NAME those of the DEEDS whose NAME it may be.
SPOKEN_OF = {
    "back": ("take",),
    "answer": ("hang",),
    "settle": ("hang",),
    "open": ("hang",),
    "unsay": ("hang", "answer"),
}


def misfit(ledger, hand, deed):
    """None where the DEED, by this hand, FITS where the LEDGER is what is KNOWN; else the word that says why not."""
    return misfit_of(ledger, len(signs(ledger)), hand, deed)


def misfit_of(ledger, many, hand, deed):
    """What misfit tells, of a LEDGER whose TEXT has so many SIGNS."""
    if deed[0] in SPOKEN_OF:
        return misfit_by_name(ledger, hand, deed)
    if deed[0] == "join":
        return None if len(tops(ledger)) >= 2 else "join"
    return None if fits_places(many, deed) else "place"


def misfit_by_name(ledger, hand, deed):
    """What misfit tells of a DEED that speaks of a NAME."""
    named = by_name(ledger).get(deed[1])
    if named is None or named[3][0] not in SPOKEN_OF[deed[0]]:
        return "name"
    if is_gone(ledger, named):
        return "gone"
    if deed[0] == "unsay" and named[1] != hand:
        return "hand"
    if deed[0] == "open" and not is_settled(ledger, deed[1]):
        return "open"
    return None


def is_gone(ledger, change):
    """Whether the LEDGER has an unsay of a CHANGE or, of an answer, of the REMARK that this answers."""
    if unsays_of(ledger, change[0]) != []:
        return True
    return change[3][0] == "answer" and unsays_of(ledger, change[3][1]) != []


def is_settled(ledger, remark):
    """Whether the greatest settle or open of a REMARK is a settle."""
    decision = last_decision(ledger, remark)
    return decision is not None and decision[0] == "settle"


def fits_places(many, deed):
    """Whether the places of a put, a take, a hang, a move are such of a TEXT of so many SIGNS."""
    if deed[0] == "put":
        return 0 <= deed[1] <= many
    i = deed[1]
    j = deed[2]
    if not 0 <= i < j <= many:
        return False
    if deed[0] == "move":
        # To i or to j it would stay where it is, and between them it can't go into itself.
        return 0 <= deed[3] < i or j < deed[3] <= many
    return True
