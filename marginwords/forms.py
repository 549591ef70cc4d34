"""The rows that a desk is told, read by their forms."""

from marginwords.errors import NoRow, NoText
from marginwords.readings import deed_form, first_wrong, read_change, read_words

# What follows the first word of a row, by kinds; of do, and of bring, see below.
FORMS = {
    "begin": ("word",),
    "take": ("word", "word", "word"),
    "strike": (),
    "branches": (),
    "own": (),
    "whole": (),
    "line": ("name",),
    "names": ("view",),
    "tops": ("view",),
    "remarks": ("view",),
    "many": ("view",),
    "text": ("view",),
    "stand": ("view", "name"),
    "word": ("view", "name"),
    "caller": ("view", "name"),
    "decided": ("view", "name"),
    "answers": ("view", "name"),
    "free": ("view", "name"),
    "kept": ("view", "view"),
    "steps": ("view", "view"),
    "part": ("view", "view"),
}


def form_of(words):
    """The kinds of what follows the first word of a row, None where no row begins so."""
    if words[0] == "do":
        return ("word", "word") + deed_form(words[3:])
    if words[0] == "begin" and len(words) == 3:
        return ("word", "word")
    return FORMS.get(words[0])


def read_row(row):
    """The first word of a row, and the list of the things that it tells behind it."""
    words = row.split(" ")
    if words[0] == "bring":
        return ("bring", brought_by(row, " ".join(words[1:])))
    form = form_of(words)
    if form is None or first_wrong(form, words[1:]) is not None:
        raise NoRow(row)
    return (words[0], read_words(form, words[1:]))


def brought_by(row, rest):
    """The list of the CHANGES by kind that the rest of a row writes."""
    try:
        return [read_change(line) for line in rest.split(" / ")]
    except NoText:
        raise NoRow(row) from None
