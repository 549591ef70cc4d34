"""Points [70] to [77]: a book."""

import random
import unittest

from marginwords.book import Book
from marginwords.errors import NoBranch, NoName
from marginwords.joining import is_part, joined
from marginwords.knowing import change_of, known
from marginwords.ledgers import lets_ledger
from marginwords.making import made
from marginwords.texts import text
from tests import model
from tests.ledgers import any_ledger, fitting_deeds, laid, part_of, remark_ledger, rows_on, together
from tests.things import ODD, refused

PUT = ("put", 0, "abc")


def told(book):
    """All that is told of a book."""
    names = [change[0] for change in book.whole()]
    return (
        book.branches(), tuple(book.now(branch) for branch in book.branches()), book.whole(), book.own(),
        tuple(book.view(name) for name in names),
    )


def begun(*branches):
    """A book with branches begun at nothing."""
    book = Book()
    for branch in branches:
        assert book.begin(branch, None) is None
    return book


class Asked(unittest.TestCase):
    def refuses(self, book, wanted, ask, *things):
        """It is refused so, and that changes nothing."""
        before = told(book)
        self.assertEqual(refused(ask, *things), wanted)
        self.assertEqual(told(book), before)


class Begun(Asked):
    def test_a_new_book(self):
        self.assertEqual(told(Book()), ((), (), (), (), ()))

    def test_at_none(self):
        book = Book()
        self.assertIsNone(book.begin("b", None))
        self.assertIsNone(book.begin("a", None))
        self.assertEqual(told(book), (("a", "b"), ((), ()), (), (), ()))

    def test_at_another_one(self):
        book = begun("a")
        book.do("a", "ann", PUT)
        start = book.now("a")
        book.begin("b", "a")
        self.assertEqual((book.now("b"), start), (start, book.whole()))
        # what a does later is a's alone
        book.do("a", "ann", ("take", 0, 1))
        self.assertEqual((text(book.now("a")), text(book.now("b"))), ("bc", "abc"))
        self.assertEqual(book.now("b"), start)
        # one that is begun and has no changes
        book.begin("cc", "b")
        self.assertEqual(book.now("cc"), start)
        self.assertEqual(book.do("cc", "ann", ("put", 3, "d")), (2, "cc"))
        self.assertEqual((text(book.now("cc")), book.branches()), ("abcd", ("a", "b", "cc")))

    def test_at_one_that_was_brought(self):
        ledger = rows_on((), "ann", PUT, ("take", 0, 1))
        book = Book()
        book.bring(ledger)
        self.assertEqual(book.branches(), ("ann",))
        self.assertIsNone(book.begin("b", "ann"))
        self.assertEqual(book.now("b"), ledger)
        self.refuses(book, ("NoBranch", "ann"), book.begin, "ann", None)

    def test_refused(self):
        book = begun("a")
        for thing in ODD + ("A", "abcdefghi", "a b", "", ["a"], ("a",)):
            if thing != "a" and thing != "shape":
                self.refuses(book, ("NoBranch", thing), book.begin, thing, None)
                self.refuses(book, ("NoBranch", thing), book.begin, thing, "a")
                self.refuses(book, ("NoBranch", thing), book.begin, thing, "none")
                if thing is not None:
                    self.refuses(book, ("NoBranch", thing), book.begin, "b", thing)
        self.refuses(book, ("NoBranch", "a"), book.begin, "a", None)
        self.refuses(book, ("NoBranch", "a"), book.begin, "a", "none")
        self.refuses(book, ("NoBranch", "none"), book.begin, "b", "none")
        self.refuses(book, ("NoBranch", "b"), book.begin, "b", "b")

    def test_the_very_thing(self):
        book = begun("a")
        thing = ["x"]
        for ask in (lambda: book.begin(thing, None), lambda: book.begin("b", thing), lambda: book.now(thing),
                    lambda: book.do(thing, None, None), lambda: book.take_in(thing, None, None),
                    lambda: book.take_in("a", None, thing)):
            with self.assertRaises(NoBranch) as caught:
                ask()
            self.assertIs(caught.exception.word, thing)
        with self.assertRaises(NoName) as caught:
            book.view(thing)
        self.assertIs(caught.exception.name, thing)


class Done(Asked):
    def test_each_change_as_it_is_made_on_the_now(self):
        book = begun("a")
        self.assertEqual(book.do("a", "ann", PUT), (1, "a"))
        self.assertEqual(book.do("a", "bob", ("hang", 0, 2, "wide", "why")), (2, "a"))
        book.begin("b", "a")
        self.assertEqual(book.do("b", "ann", ("take", 0, 1)), (3, "b"))
        self.assertEqual(book.do("a", "ann", ("answer", (2, "a"), "no")), (3, "a"))
        self.assertEqual(book.own(), ((1, "a"), (2, "a"), (3, "b"), (3, "a")))
        ledger = rows_on((), "a", PUT)
        ledger = laid(ledger, "a", ("hang", 0, 2, "wide", "why"), "bob")
        left, right = laid(ledger, "b", ("take", 0, 1)), laid(ledger, "a", ("answer", (2, "a"), "no"))
        self.assertEqual(book.whole(), together(left, right))
        self.assertEqual((book.now("a"), book.now("b")), (right, left))

    def test_on_a_branch_that_was_brought(self):
        book = Book()
        book.bring(rows_on((), "ann", PUT))
        self.assertEqual(book.do("ann", "bob", ("take", 0, 1)), (2, "ann"))
        self.assertEqual(book.own(), ((2, "ann"),))
        self.assertEqual(text(book.now("ann")), "bc")

    def test_a_lesser_name_than_others_of_the_whole(self):
        book = begun("a", "b")
        for k in range(3):
            book.do("a", "ann", ("put", k, "x"))
        self.assertEqual(book.do("b", "ann", PUT), (1, "b"))
        self.assertEqual([change[0] for change in book.whole()], [(1, "a"), (1, "b"), (2, "a"), (3, "a")])
        self.assertTrue(lets_ledger(book.whole()))

    def test_refused(self):
        book = begun("a")
        book.do("a", "ann", PUT)
        for thing in ODD + ("b", "A", ["a"]):
            if thing != "a":
                self.refuses(book, ("NoBranch", thing), book.do, thing, None, None)
            if thing not in ("a", "b", "shape"):
                self.refuses(book, ("NoChange", "hand"), book.do, "a", thing, None)
            if thing != ("put", 0, "a"):
                self.refuses(book, ("NoChange", "deed"), book.do, "a", "ann", thing)
        for deed, word in (
            (("take", 0, 4), "place"), (("take", 0, True), "deed"), (("put", 4, "x"), "place"), (("join",), "join"),
            (("back", (1, "a")), "name"), (("settle", (1, "a")), "name"), (["put", 0, "a"], "deed"),
        ):
            self.refuses(book, ("NoChange", word), book.do, "a", "ann", deed)

    def test_each_word_of_no_change(self):
        book = begun("a")
        book.do("a", "ann", PUT)
        book.do("a", "ann", ("hang", 0, 1, "shut", "why"))
        self.refuses(book, ("NoChange", "hand"), book.do, "a", "bob", ("unsay", (2, "a")))
        self.refuses(book, ("NoChange", "open"), book.do, "a", "bob", ("open", (2, "a")))
        book.do("a", "ann", ("unsay", (2, "a")))
        self.refuses(book, ("NoChange", "gone"), book.do, "a", "ann", ("settle", (2, "a")))


class TakenIn(Asked):
    def two(self):
        book = begun("a")
        book.do("a", "ann", PUT)
        book.begin("b", "a")
        book.do("a", "ann", ("put", 3, "x"))
        book.do("b", "bob", ("take", 0, 1))
        return book

    def test_one_another(self):
        book = self.two()
        both = book.whole()
        self.assertEqual(book.take_in("a", "cyr", "b"), (3, "a"))
        self.assertEqual(book.whole(), laid(both, "a", ("join",), "cyr"))
        self.assertEqual(text(book.now("a")), "bcx")
        self.assertEqual((text(book.now("b")), book.own()[-1]), ("bc", (3, "a")))
        # a has all that b has now; b hasn't what a has, but that is one top
        self.refuses(book, ("NoChange", "join"), book.take_in, "a", "cyr", "b")
        self.refuses(book, ("NoChange", "join"), book.take_in, "b", "cyr", "a")
        self.assertEqual(book.do("b", "bob", ("put", 0, "q")), (3, "b"))
        self.assertEqual(book.take_in("b", "cyr", "a"), (4, "b"))
        self.assertEqual(text(book.now("b")), "qbcx")

    def test_one_that_has_no_changes_of_its_own(self):
        book = self.two()
        book.begin("cc", "a")
        self.assertEqual(book.take_in("cc", "cyr", "b"), (3, "cc"))
        self.assertEqual(text(book.now("cc")), "bcx")
        empty = begun("a", "b")
        self.refuses(empty, ("NoChange", "join"), empty.take_in, "a", "ann", "b")
        empty.do("a", "ann", PUT)
        self.refuses(empty, ("NoChange", "join"), empty.take_in, "b", "ann", "a")

    def test_by_itself(self):
        book = self.two()
        self.refuses(book, ("NoChange", "join"), book.take_in, "a", "ann", "a")
        self.refuses(begun("a"), ("NoChange", "join"), begun("a").take_in, "a", "ann", "a")

    def test_one_that_was_brought(self):
        book = self.two()
        book.bring(rows_on((), "zz", ("put", 0, "z")))
        self.assertEqual(book.take_in("zz", "ann", "a"), (3, "zz"))
        self.assertEqual(text(book.now("zz")), "zabcx")

    def test_refused(self):
        book = self.two()
        for thing in ODD + ("none", ["a"], "A"):
            if thing != "a":
                self.refuses(book, ("NoBranch", thing), book.take_in, thing, None, "none")
                self.refuses(book, ("NoBranch", thing), book.take_in, "a", None, thing)
            if thing not in ("a", "shape", "none"):
                self.refuses(book, ("NoChange", "hand"), book.take_in, "a", thing, "b")
                self.refuses(book, ("NoChange", "hand"), book.take_in, "a", thing, "a")
        self.refuses(book, ("NoBranch", "x"), book.take_in, "x", "ann", "y")
        self.refuses(book, ("NoBranch", "y"), book.take_in, "a", "ANN", "y")


class Brought(Asked):
    def test_in_parts_and_twice(self):
        ledger = together(rows_on((), "ann", PUT, ("take", 0, 1)), rows_on((), "b", ("put", 0, "x"), ("put", 0, "y")))
        book = Book()
        self.assertEqual(book.bring(()), ())
        self.assertEqual(book.bring(ledger[:2]), ((1, "ann"), (1, "b")))
        self.assertEqual(book.bring(ledger), ((2, "ann"), (2, "b")))
        self.assertEqual(book.bring(ledger), ())
        self.assertEqual(book.bring(ledger[:1]), ())
        self.assertEqual((book.whole(), book.own(), book.branches()), (ledger, (), ("ann", "b")))

    def test_what_came_rises(self):
        book = begun("a")
        for k in range(3):
            book.do("a", "ann", ("put", k, "x"))
        ledger = rows_on((), "b", ("put", 0, "x"), ("put", 0, "y"))
        self.assertEqual(book.bring(ledger), ((1, "b"), (2, "b")))
        self.assertEqual(book.own(), ((1, "a"), (2, "a"), (3, "a")))

    def test_a_branch_that_was_begun_has_its_now_by_what_came(self):
        book = begun("a")
        book.do("a", "ann", PUT)
        book.begin("b", "a")
        strange = rows_on((), "b", ("put", 0, "x"))
        book.bring(strange)
        self.assertEqual(book.now("b"), strange)
        self.assertEqual(book.do("b", "ann", ("put", 1, "y")), (2, "b"))
        self.assertEqual(text(book.now("b")), "xy")
        # it stays begun: what it was begun at can't be struck
        book = begun("a")
        book.do("a", "ann", PUT)
        book.begin("b", "a")
        book.bring(strange)
        self.refuses(book, ("NoStrike", "begun"), book.strike)

    def test_refused(self):
        book = begun("a")
        book.do("a", "ann", PUT)
        other = rows_on((), "a", ("put", 0, "x"))
        self.refuses(book, ("NoJoin", (1, "a"), "unlike"), book.bring, other)
        self.refuses(book, ("NoJoin", (1, "a"), "unlike"), book.bring, together(other, rows_on((), "b", PUT)))
        book.begin("b", "a")
        book.do("b", "ann", PUT)
        strange = rows_on((), "b", ("put", 0, "x"))
        self.refuses(book, ("NoJoin", (2, "b"), "branch"), book.bring, strange)

    def test_as_joined(self):
        words = set()
        for seed in range(80):
            ledger = any_ledger(seed)
            for other in (part_of(seed, ledger), any_ledger(seed + 1), ledger):
                book = Book()
                first = part_of(seed + 7, ledger)
                book.bring(first)
                wanted = refused(joined, first, other)
                if wanted is None:
                    whole = joined(first, other)
                    came = tuple(change[0] for change in whole if change not in first)
                    self.assertEqual(book.bring(other), came)
                    self.assertEqual(book.whole(), whole)
                else:
                    words.add(wanted[2])
                    self.refuses(book, wanted, book.bring, other)
        self.assertEqual(words, {"unlike", "branch"})


class Struck(Asked):
    def test_none(self):
        book = begun("a")
        self.refuses(book, ("NoStrike", "none"), book.strike)
        book.bring(rows_on((), "b", PUT))
        self.refuses(book, ("NoStrike", "none"), book.strike)

    def test_as_if_it_had_not_been_made(self):
        book = begun("a")
        rows = [told(book)]
        for deed in (PUT, ("take", 0, 1), ("back", (2, "a"))):
            book.do("a", "ann", deed)
            rows.append(told(book))
        for k in (3, 2, 1):
            self.assertEqual(told(book), rows[k])
            self.assertEqual(book.strike(), (k, "a"))
        self.assertEqual(told(book), rows[0])
        self.refuses(book, ("NoStrike", "none"), book.strike)
        # a branch that was begun stays so
        self.refuses(book, ("NoBranch", "a"), book.begin, "a", None)

    def test_a_join(self):
        book = begun("a", "b")
        book.do("a", "ann", PUT)
        book.do("b", "ann", PUT)
        before = told(book)
        self.assertEqual(book.take_in("a", "ann", "b"), (2, "a"))
        self.refuses(book, ("NoChange", "join"), book.take_in, "b", "ann", "a")
        self.assertEqual(book.strike(), (2, "a"))
        self.assertEqual(told(book), before)

    def test_the_last_one_made_not_the_greatest(self):
        book = begun("a", "b")
        for k in range(3):
            book.do("a", "ann", ("put", 0, "x"))
        book.do("b", "ann", PUT)
        self.assertEqual(book.strike(), (1, "b"))
        self.assertEqual(book.now("b"), ())
        self.assertEqual(book.strike(), (3, "a"))

    def test_back_to_the_start(self):
        book = begun("a")
        book.do("a", "ann", PUT)
        book.begin("b", "a")
        start = book.now("b")
        book.do("b", "ann", ("take", 0, 1))
        book.strike()
        self.assertEqual((book.now("b"), book.branches()), (start, ("a", "b")))

    def test_known(self):
        book = begun("a")
        book.do("a", "ann", PUT)
        book.bring(laid(book.whole(), "zz", ("put", 0, "x")))
        self.refuses(book, ("NoStrike", "known"), book.strike)
        # ahead of begun
        book.begin("b", "a")
        self.refuses(book, ("NoStrike", "known"), book.strike)

    def test_begun(self):
        book = begun("a")
        book.do("a", "ann", PUT)
        book.do("a", "ann", ("take", 0, 1))
        book.begin("b", "a")
        self.refuses(book, ("NoStrike", "begun"), book.strike)
        book.do("a", "ann", ("take", 0, 1))
        self.assertEqual(book.strike(), (3, "a"))
        self.refuses(book, ("NoStrike", "begun"), book.strike)

    def test_made_again_and_brought_again(self):
        book = begun("a")
        book.do("a", "ann", PUT)
        struck = book.whole()
        book.strike()
        self.assertEqual(book.bring(struck), ((1, "a"),))
        # it isn't the book's own any more
        self.refuses(book, ("NoStrike", "none"), book.strike)
        self.assertEqual((book.own(), book.now("a")), ((), struck))
        book.do("a", "ann", ("take", 0, 1))
        self.assertEqual(book.own(), ((2, "a"),))
        # made again, otherwise
        book = begun("a")
        book.do("a", "ann", PUT)
        book.strike()
        self.assertEqual(book.do("a", "bob", PUT), (1, "a"))
        self.assertEqual(book.own(), ((1, "a"),))
        self.refuses(book, ("NoJoin", (1, "a"), "unlike"), book.bring, struck)

    def test_one_that_came_between(self):
        book = begun("a")
        book.do("a", "ann", PUT)
        book.bring(rows_on((), "b", PUT))
        self.assertEqual(book.strike(), (1, "a"))
        self.assertEqual(book.whole(), rows_on((), "b", PUT))


class Told(Asked):
    def test_now_and_view_of_odd_things(self):
        book = begun("a")
        book.do("a", "ann", PUT)
        for thing in ODD + ("b", ["a"], (1, "b"), (2, "a"), (True, "a"), [1, "a"], (1, "a", 0)):
            if thing != "a":
                self.refuses(book, ("NoBranch", thing), book.now, thing)
            self.refuses(book, ("NoName", thing), book.view, thing)
        self.assertEqual(book.view((1, "a")), book.whole())

    def test_views_stay_as_they_were(self):
        for seed in range(30):
            book, views, nows = Book(), {}, {}
            for change in remark_ledger(seed):
                ledger = known(remark_ledger(seed), change[0]) + (change,)
                book.bring(ledger)
                views[change[0]] = ledger
                nows[change[0][1]] = ledger
            for name, ledger in views.items():
                self.assertEqual(book.view(name), ledger)
            for branch, ledger in nows.items():
                self.assertEqual(book.now(branch), ledger)
            self.assertEqual(book.branches(), tuple(sorted(nows)))

    def test_what_is_told_is_of_just_that_kind(self):
        book = begun("b", "a")
        book.do("a", "ann", PUT)
        for thing in (book.branches(), book.now("a"), book.now("b"), book.whole(), book.own(), book.view((1, "a")),
                      book.bring(())):
            self.assertIs(type(thing), tuple)


def any_deed(chance, book, other):
    """Do any one thing that may be done with a book; whether it was told."""
    branches = list(book.branches()) + ["q", "zz"]
    branch, second = chance.choice(branches), chance.choice(branches)
    hand = chance.choice(("ann", "bob"))
    kind = chance.randrange(8)
    if kind == 0:
        return refused(book.begin, branch, chance.choice((None, second))) is None
    if kind == 1:
        return refused(book.take_in, branch, hand, second) is None
    if kind == 2:
        return refused(book.strike) is None
    if kind == 3:
        return refused(book.bring, other.whole()) is None
    now = book.now(branch) if branch in book.branches() else ()
    return refused(book.do, branch, hand, chance.choice(fitting_deeds(chance, now, hand))) is None


class TwoBooks(unittest.TestCase):
    def test_each_brought_the_whole_of_the_other(self):
        for seed in range(40):
            chance = random.Random(seed)
            one, other = begun("a", "b"), begun("cc", "dd")
            before = told(other)
            for _ in range(14):
                any_deed(chance, one, Book())
            self.assertEqual(told(other), before)
            for _ in range(8):
                any_deed(chance, other, one)
            # branches of one name may have gone apart: then they can't be joined, by either road
            left, right = one.whole(), other.whole()
            if refused(joined, left, right) is not None:
                self.assertEqual(refused(one.bring, right), refused(other.bring, left))
                continue
            one.bring(right)
            other.bring(left)
            self.assertEqual(one.whole(), other.whole())
            for change in one.whole():
                self.assertEqual(one.view(change[0]), other.view(change[0]))
                self.assertEqual(one.now(change[0][1]), other.now(change[0][1]))

    def test_the_whole_is_a_ledger_always(self):
        for seed in range(30):
            chance = random.Random(seed)
            book, other = begun("a"), begun("b")
            for _ in range(12):
                any_deed(chance, other, book)
            for _ in range(16):
                size, own = len(book.whole()), book.own()
                told_it = any_deed(chance, book, other)
                if len(book.whole()) > 24:
                    break
                self.assertTrue(lets_ledger(book.whole()))
                self.assertTrue(set(own) <= set(book.own()) or own[:-1] == book.own())
                if not told_it:
                    self.assertEqual((len(book.whole()), book.own()), (size, own))
                for branch in book.branches():
                    self.assertTrue(is_part(book.now(branch), book.whole()))
                    names = [change[0] for change in book.whole() if change[0][1] == branch]
                    if names:
                        self.assertEqual(book.now(branch), model.known(book.whole(), max(names))
                                         + (change_of(book.whole(), max(names)),))

    def test_deeds_are_those_of_made(self):
        book = begun("a")
        ledger = ()
        chance = random.Random(1)
        for _ in range(10):
            deed = chance.choice(fitting_deeds(chance, ledger))
            change = made(ledger, "a", "ann", deed)
            self.assertEqual(book.do("a", "ann", deed), change[0])
            ledger += (change,)
            self.assertEqual(book.whole(), ledger)


if __name__ == "__main__":
    unittest.main()
