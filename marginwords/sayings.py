"""What was said of a NAME: the CHANGES whose DEEDS speak of it."""


def said_of(ledger, words, name):
    """The CHANGES, rising, whose DEED has one of these first words and speaks of this NAME."""
    return [change for change in ledger if change[3][0] in words and change[3][1] == name]


def unsays_of(ledger, name):
    """The NAMES of the unsays of a REMARK or an answer, rising."""
    return [change[0] for change in said_of(ledger, ("unsay",), name)]


def last_decision(ledger, remark):
    """The first word and the NAME of the greatest settle or open of a REMARK, None where there is none."""
    decisions = said_of(ledger, ("settle", "open"), remark)
    if decisions == []:
        return None
    return (decisions[-1][3][0], decisions[-1][0])
