"""What a desk answers where it is only asked."""

from marginwords.calling import caller, word_of
from marginwords.freeing import freed
from marginwords.joining import is_part
from marginwords.keeping import kept
from marginwords.knowing import change_of, names_of, tops
from marginwords.lines import shown_change, shown_letters, shown_name, shown_stand
from marginwords.scripts import fewest_steps
from marginwords.spans import remarks
from marginwords.stands import stand
from marginwords.talking import answers, decided
from marginwords.texts import signs, text


def listed(words):
    """Words parted by single blanks, - where there are none."""
    return "-" if words == [] else " ".join(words)


def listed_names(names):
    """NAMES parted by single blanks, - where there are none."""
    return listed([shown_name(name) for name in names])


def told_branches(book):
    """The branches IN the book."""
    return listed(list(book.branches()))


def told_own(book):
    """The NAMES that are the book's OWN."""
    return listed_names(book.own())


def told_whole(book):
    """The NAMES of the WHOLE."""
    return listed_names(names_of(book.whole()))


def told_names(ledger):
    """The NAMES of all CHANGES."""
    return listed_names(names_of(ledger))


def told_tops(ledger):
    """The NAMES of the TOPS."""
    return listed_names(tops(ledger))


def told_remarks(ledger):
    """The NAMES of the REMARKS."""
    return listed_names(remarks(ledger))


def told_many(ledger):
    """Of how many SIGNS the TEXT is."""
    return str(len(signs(ledger)))


def told_text(ledger):
    """The TEXT, - where it has no SIGNS."""
    return "-" if signs(ledger) == () else shown_letters(text(ledger))


def told_stand(ledger, remark):
    """The STAND of a REMARK."""
    return shown_stand(stand(ledger, remark))


def told_word(ledger, remark):
    """The word of a REMARK."""
    return word_of(ledger, remark)


def told_caller(ledger, remark):
    """The CALLER of a REMARK."""
    name = caller(ledger, remark)
    return "-" if name is None else shown_name(name)


def told_decided(ledger, remark):
    """By what a REMARK is decided."""
    decision = decided(ledger, remark)
    return "-" if decision is None else f"{decision[0]} {shown_name(decision[1])}"


def told_answers(ledger, remark):
    """The answers of a REMARK."""
    rows = [(shown_name(name), hand, shown_letters(letters)) for name, hand, letters in answers(ledger, remark)]
    return listed([",".join(row) for row in rows])


def told_free(ledger, remark):
    """The NAMES of what has to be left out that a lost REMARK stands again."""
    return listed_names(freed(ledger, remark) if stand(ledger, remark)[0] == "lost" else ())


def told_kept(ledger, other):
    """How many SIGNS of both TEXTS are kept."""
    return str(len(kept(signs(ledger), signs(other))))


def told_steps(ledger, other):
    """How few STEPS make of the one TEXT the other."""
    return str(fewest_steps(signs(ledger), signs(other)))


def told_part(ledger, other):
    """Whether the one LEDGER is a PART of the other."""
    return "yes" if is_part(ledger, other) else "no"


OF_BOOK = {"branches": told_branches, "own": told_own, "whole": told_whole}
OF_LEDGER = {
    "names": told_names,
    "tops": told_tops,
    "remarks": told_remarks,
    "many": told_many,
    "text": told_text,
}
OF_REMARK = {
    "stand": told_stand,
    "word": told_word,
    "caller": told_caller,
    "decided": told_decided,
    "answers": told_answers,
    "free": told_free,
}
OF_TWO = {"kept": told_kept, "steps": told_steps, "part": told_part}


def ledger_of(book, view):
    """The NOW of a branch, or the VIEW of a NAME."""
    if isinstance(view, str):
        return book.now(view)
    return book.view(view)


def asked(book, word, things):
    """The answer to a row that only asks, read as its first word and what it tells behind it."""
    if word in OF_BOOK:
        ask_book = OF_BOOK[word]
        return ask_book(book)
    if word == "line":
        return shown_change(change_of(book.whole(), things[0]))
    ledger = ledger_of(book, things[0])
    if word in OF_LEDGER:
        ask_ledger = OF_LEDGER[word]
        return ask_ledger(ledger)
    if word in OF_REMARK:
        ask_remark = OF_REMARK[word]
        return ask_remark(ledger, things[1])
    ask_two = OF_TWO[word]
    return ask_two(ledger, ledger_of(book, things[1]))
