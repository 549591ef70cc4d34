"""A desk: a book that is told its deeds, and asked, by rows of words."""

from marginwords.asking import asked, listed_names
from marginwords.book import Book
from marginwords.forms import read_row
from marginwords.ledgers import lets_ledger
from marginwords.lines import shown_name


class Desk:
    """A book, and the answers to what is told of it."""

    def __init__(self):
        self.book = Book()

    def say(self, row):
        """Do what a row says, or tell what it asks; the answer."""
        word, things = read_row(row)
        if word == "begin":
            return self.begun(things)
        if word == "do":
            return shown_name(self.book.do(things[0], things[1], tuple(things[2:])))
        if word == "take":
            return shown_name(self.book.take_in(things[0], things[1], things[2]))
        if word == "bring":
            return self.brought(tuple(things))
        if word == "strike":
            return shown_name(self.book.strike())
        return asked(self.book, word, things)

    def begun(self, things):
        """Begin a branch, at another one where one is told."""
        other = things[1] if len(things) == 2 else None
        self.book.begin(things[0], other)
        return "ok"

    def brought(self, changes):
        """Bring the LEDGER that these CHANGES are; the NAMES that came."""
        lets_ledger(changes)
        return listed_names(self.book.bring(changes))
