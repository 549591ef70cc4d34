"""Point [7] over the whole program: one LEDGER by several roads is one text, with the same STANDS."""

import random
import unittest

from marginwords.book import Book
from marginwords.calling import caller, word_of
from marginwords.desk import Desk
from marginwords.joining import joined
from marginwords.knowing import upto
from marginwords.lines import shown_ledger, shown_stand
from marginwords.making import laid_on
from marginwords.readings import read_ledger
from marginwords.sheet import Sheet
from marginwords.spans import remarks
from marginwords.standchecker import lets_stand
from marginwords.standpapers import stand_paper
from marginwords.stands import look, stand
from marginwords.texts import signs, text
from tests.ledgers import any_ledger, laid, part_of, remark_ledger
from tests.test_sheet import any_road


def told(ledger):
    """What is told of a LEDGER and its REMARKS."""
    of_remarks = tuple(
        (stand(ledger, name), look(ledger, name), word_of(ledger, name), caller(ledger, name)) for name in remarks(ledger)
    )
    return ledger, signs(ledger), text(ledger), of_remarks


def by_laying(road):
    ledger = ()
    for change in road:
        ledger = laid_on(ledger, change)
    return ledger


def by_a_sheet(road):
    sheet = Sheet()
    for change in road:
        sheet.lay(change)
        sheet.lay(change)
    return sheet


def by_a_book(parts):
    book = Book()
    for part in parts:
        book.bring(part)
    return book


def by_a_desk(parts):
    desk = Desk()
    for part in parts:
        if part:
            desk.say("bring " + " / ".join(shown_ledger(part)))
    return desk


class OneLedger(unittest.TestCase):
    def test_by_several_roads(self):
        words = set()
        for seed in range(60):
            ledger = remark_ledger(seed) if seed % 3 else any_ledger(seed, 14)
            road = any_road(seed, ledger)
            wanted = told(ledger)
            self.assertEqual(told(by_laying(road)), wanted)

            parts = [part_of(seed + k, ledger) for k in range(3)] + [ledger]
            random.Random(seed).shuffle(parts)
            whole = ()
            for part in parts + parts[:1]:
                whole = joined(part, whole) if seed % 2 else joined(whole, part)
            self.assertEqual(told(whole), wanted)
            self.assertEqual(told(read_ledger(shown_ledger(ledger))), wanted)

            sheet = by_a_sheet(road)
            self.assertEqual((sheet.ledger(), sheet.signs(), sheet.text()), wanted[:3])
            book = by_a_book(parts)
            self.assertEqual(told(book.whole()), wanted)
            # a branch that knows all, made by two books that brought their parts in other orders
            other = by_a_book(parts[::-1])
            self.assertEqual(other.whole(), book.whole())

            top = laid(ledger, "top", ("put", 0, "t"))
            desk = by_a_desk(parts + [top])
            self.assertEqual(desk.say("text top"), text(top).replace(" ", "_"))
            for name in remarks(ledger):
                words.add(stand(ledger, name)[0])
                self.assertEqual((sheet.stand(name), sheet.word_of(name)), (stand(ledger, name), word_of(ledger, name)))
                self.assertEqual(desk.say(f"stand top {name[0]}.{name[1]}"), shown_stand(stand(top, name)))
                self.assertEqual(lets_stand(book.whole(), name, stand_paper(ledger, name)), stand(ledger, name))
        self.assertEqual(words, {"there", "lost", "unsaid"})

    def test_elder_ledgers_are_told_as_they_were(self):
        for seed in range(20):
            ledger = remark_ledger(seed)
            before = [told(upto(ledger, change[0])) for change in ledger]
            book = by_a_book([ledger])
            views = [told(book.view(change[0])) for change in ledger]
            book.bring(laid(ledger, "top", ("put", 0, "t")))
            self.assertEqual([told(book.view(change[0])) for change in ledger], views)
            self.assertEqual([told(upto(book.whole(), change[0])) for change in ledger], before)

    def test_a_branch_taken_in_by_any_road(self):
        # a takes b in by one book, the changes of b come by another one's whole: the same text in both
        one, other = Book(), Book()
        one.begin("a", None)
        one.do("a", "ann", ("put", 0, "abcdef"))
        one.do("a", "ann", ("hang", 1, 4, "wide", "why"))
        other.bring(one.whole())
        other.begin("b", "a")
        other.do("b", "bob", ("move", 2, 3, 6))
        one.do("a", "ann", ("take", 0, 2))
        one.bring(other.whole())
        other.bring(one.whole())
        self.assertEqual(one.whole(), other.whole())
        join = one.take_in("a", "ann", "b")
        other.bring(one.view(join))
        self.assertEqual(told(one.now("a")), told(other.now("a")))
        self.assertEqual(text(one.now("a")), "defc")
        self.assertEqual(stand(one.now("a"), (2, "a")), ("there", ((0, 1), (3, 4))))


if __name__ == "__main__":
    unittest.main()
