"""CHANGES and LEDGERS read from texts.

A FORM is a tuple of the kinds of the words that follow one another.
"""

from marginwords.deeds import begins_deed, is_of_kind, kinds_behind
from marginwords.errors import NoText
from marginwords.kinds import is_letters, is_name, is_word
from marginwords.ledgers import lets_ledger

MOST_FIGURES = 200


def is_figures(word):
    """Whether it writes a NUMBER from 0 on."""
    if not 1 <= len(word) <= MOST_FIGURES or not all("0" <= sign <= "9" for sign in word):
        return False
    return word == "0" or word[0] != "0"


def read_number(word):
    """The NUMBER that a word writes, None where it writes none."""
    if word == "-0" or not is_figures(word.removeprefix("-")):
        return None
    return int(word)


def read_name(word):
    """The NAME that a word writes, None where it writes none."""
    count, point, branch = word.partition(".")
    name = (read_number(count), branch)
    return name if is_name(name) else None


def read_base(word):
    """The tuple of NAMES that a word writes, None where it writes none."""
    if word == "-":
        return ()
    names = [read_name(each) for each in word.split(",")]
    return None if None in names else tuple(names)


def read_letters(word):
    """The LETTERS that a word writes, None where it writes none."""
    letters = word.replace("_", " ")
    return letters if is_letters(letters) else None


def read_word(word):
    """The WORD that a word writes, None where it writes none."""
    return word if is_word(word) else None


def read_first(word):
    """The first word of a DEED that a word writes, None where it writes none."""
    return word if begins_deed(word) else None


def read_edge(word):
    """The edge that a word writes, None where it writes none."""
    return word if is_of_kind("edge", word) else None


def read_view(word):
    """The WORD or the NAME that a word writes, None where it writes none."""
    return word if is_word(word) else read_name(word)


READERS = {
    "number": read_number,
    "name": read_name,
    "base": read_base,
    "letters": read_letters,
    "word": read_word,
    "first": read_first,
    "edge": read_edge,
    "view": read_view,
}


def read_as(kind, word):
    """What a word writes of this kind, None where it writes none."""
    reader = READERS[kind]
    return reader(word)


def deed_form(words):
    """The FORM of a DEED that has these words, as far as its first one tells it."""
    if words == [] or not begins_deed(words[0]):
        return ("first",)
    return ("first",) + kinds_behind(words[0])


def first_wrong(form, words):
    """The number of the first word that can't stand there, or that is lacking; None where all are right."""
    for k, word in enumerate(words):
        if k >= len(form) or read_as(form[k], word) is None:
            return k
    return len(words) if len(words) < len(form) else None


def read_words(form, words):
    """The list of what these words write, which are right by this FORM."""
    return [read_as(kind, word) for kind, word in zip(form, words)]


def read_line(line, text):
    """The CHANGE by kind that the text, the line of this number, writes."""
    words = text.split(" ")
    form = ("name", "word", "base") + deed_form(words[3:])
    wrong = first_wrong(form, words)
    if wrong is not None:
        raise NoText(line, wrong)
    things = read_words(form, words)
    return (things[0], things[1], things[2], tuple(things[3:]))


def read_change(text):
    """The CHANGE by kind that a text writes."""
    return read_line(0, text)


def read_ledger(lines):
    """The LEDGER that a list of texts writes, one CHANGE each."""
    ledger = tuple(read_line(line, text) for line, text in enumerate(lines))
    lets_ledger(ledger)
    return ledger
