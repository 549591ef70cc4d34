"""CHANGES, LEDGERS and STANDS written as texts."""

from marginwords.deeds import kinds_behind


def shown_name(name):
    """A NAME, as its count, a point and its branch."""
    return f"{name[0]}.{name[1]}"


def shown_letters(letters):
    """LETTERS, with _ for each blank."""
    return letters.replace(" ", "_")


def shown_base(base):
    """The NAMES of a base with commas between, - where there are none."""
    if base == ():
        return "-"
    return ",".join([shown_name(name) for name in base])


def shown_part(kind, part):
    """What follows the first word of a DEED, by its kind."""
    if kind == "name":
        return shown_name(part)
    if kind == "letters":
        return shown_letters(part)
    return str(part)


def shown_change(change):
    """A CHANGE by kind, as one line."""
    name, hand, base, deed = change
    kinds = kinds_behind(deed[0])
    parts = [shown_part(kind, part) for kind, part in zip(kinds, deed[1:])]
    return " ".join([shown_name(name), hand, shown_base(base), deed[0]] + parts)


def shown_ledger(ledger):
    """A LEDGER, as a list of lines."""
    return [shown_change(change) for change in ledger]


def shown_stand(stand):
    """A STAND, as its word and the NAME or the parts."""
    word, told = stand
    if word == "there":
        return " ".join([word] + [f"{begin}-{end}" for begin, end in told])
    return f"{word} {shown_name(told)}"
