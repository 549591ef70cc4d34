"""Point [25], with [4] and [5]: what FITS, and why not."""

import random
import unittest

from marginwords.fitting import misfit
from tests import model
from tests.ledgers import laid, remark_ledger, rows_on, together

BIG = 10**199
START = rows_on((), "ann", ("put", 0, "abcd"))
# ann hangs at 2, bob answers at 3, ann answers at 4.
HUNG = laid(START, "ann", ("hang", 1, 3, "shut", "why"), "ann")
REMARK = (2, "ann")
TALK = laid(laid(HUNG, "ann", ("answer", REMARK, "no"), "bob"), "ann", ("answer", REMARK, "yes"), "ann")


class Places(unittest.TestCase):
    def asked(self, deed, fits, ledger=START):
        self.assertEqual(misfit(ledger, "ann", deed), None if fits else "place", deed)

    def test_puts(self):
        for place, fits in ((-1, 0), (0, 1), (1, 1), (4, 1), (5, 0), (BIG, 0), (-BIG, 0)):
            self.asked(("put", place, "x"), fits)
        self.asked(("put", 0, "x"), True, ())
        self.asked(("put", 1, "x"), False, ())
        self.asked(("put", -1, "x"), False, ())

    def test_takes_and_hangs(self):
        rows = [
            (0, 1, 1), (0, 4, 1), (3, 4, 1), (1, 3, 1), (-1, 1, 0), (-1, 4, 0), (0, 5, 0), (3, 5, 0), (4, 5, 0),
            (0, 0, 0), (2, 2, 0), (4, 4, 0), (3, 2, 0), (0, -1, 0), (-2, -1, 0), (-BIG, 1, 0), (0, BIG, 0),
            (BIG, BIG + 1, 0), (-BIG, BIG, 0), (BIG, -BIG, 0),
        ]
        for i, j, fits in rows:
            self.asked(("take", i, j), fits)
            self.asked(("hang", i, j, "shut", "why"), fits)
            self.asked(("hang", i, j, "wide", "why"), fits)
            if not fits:
                self.asked(("move", i, j, 0), False)
                self.asked(("move", i, j, 4), False)
        self.asked(("take", 0, 1), False, ())
        self.asked(("hang", 0, 1, "wide", "why"), False, ())

    def test_moves(self):
        for deed, fits in (
            ((1, 3, -1), 0), ((1, 3, 0), 1), ((1, 3, 1), 0), ((1, 3, 2), 0), ((1, 3, 3), 0), ((1, 3, 4), 1),
            ((1, 3, 5), 0), ((0, 1, 0), 0), ((0, 1, 1), 0), ((0, 1, 2), 1), ((0, 1, 4), 1), ((3, 4, 0), 1),
            ((3, 4, 2), 1), ((3, 4, 3), 0), ((3, 4, 4), 0), ((3, 4, 5), 0), ((0, 4, 0), 0), ((0, 4, 4), 0),
            ((0, 4, 5), 0), ((0, 4, -1), 0), ((1, 3, BIG), 0), ((1, 3, -BIG), 0), ((BIG, BIG, 0), 0),
        ):
            self.asked(("move", *deed), fits)
        self.asked(("move", 0, 1, 0), False, ())

    def test_places_are_such_of_what_is_shown(self):
        taken = laid(START, "ann", ("take", 0, 3))
        self.asked(("put", 1, "x"), True, taken)
        self.asked(("put", 2, "x"), False, taken)
        self.asked(("take", 0, 2), False, taken)
        self.asked(("take", 0, 4), True, laid(taken, "ann", ("back", (2, "ann"))))

    def test_any_hand(self):
        for hand in ("ann", "bob", "zz"):
            self.assertIsNone(misfit(START, hand, ("take", 0, 4)))
            self.assertIsNone(misfit(TALK, hand, ("answer", REMARK, "no")))


class Names(unittest.TestCase):
    def test_a_back(self):
        taken = rows_on(TALK, "ann", ("take", 0, 1), ("back", (5, "ann")))
        self.assertIsNone(misfit(taken, "bob", ("back", (5, "ann"))))
        for name in [(1, "ann"), REMARK, (3, "ann"), (6, "ann"), (7, "ann"), (5, "b"), (BIG, "ann")]:
            self.assertEqual(misfit(taken, "ann", ("back", name)), "name")
        self.assertEqual(misfit((), "ann", ("back", (1, "ann"))), "name")

    def test_what_speaks_of_a_remark(self):
        for word, more in (("answer", ("no",)), ("settle", ()), ("open", ()), ("unsay", ())):
            for name in [(1, "ann"), (5, "ann"), (2, "b"), (BIG, "ann")]:
                self.assertEqual(misfit(TALK, "ann", (word, name, *more)), "name")
            self.assertEqual(misfit((), "ann", (word, REMARK, *more)), "name")
        for deed in (("answer", (3, "ann"), "no"), ("settle", (3, "ann")), ("open", (3, "ann"))):
            self.assertEqual(misfit(TALK, "bob", deed), "name")

    def test_a_remark(self):
        self.assertIsNone(misfit(TALK, "bob", ("answer", REMARK, "no")))
        self.assertIsNone(misfit(TALK, "bob", ("settle", REMARK)))
        self.assertIsNone(misfit(laid(TALK, "ann", ("settle", REMARK)), "bob", ("settle", REMARK)))
        self.assertIsNone(misfit(TALK, "ann", ("unsay", REMARK)))
        self.assertEqual(misfit(TALK, "bob", ("unsay", REMARK)), "hand")

    def test_an_answer(self):
        self.assertIsNone(misfit(TALK, "bob", ("unsay", (3, "ann"))))
        self.assertEqual(misfit(TALK, "ann", ("unsay", (3, "ann"))), "hand")
        self.assertIsNone(misfit(TALK, "ann", ("unsay", (4, "ann"))))

    def test_an_unsaid_remark(self):
        gone = laid(TALK, "ann", ("unsay", REMARK), "ann")
        for hand in ("ann", "bob"):
            for deed in (
                ("answer", REMARK, "no"), ("settle", REMARK), ("open", REMARK), ("unsay", REMARK),
                ("unsay", (3, "ann")), ("unsay", (4, "ann")),
            ):
                self.assertEqual(misfit(gone, hand, deed), "gone", (hand, deed))
        self.assertEqual(misfit(gone, "ann", ("unsay", (5, "ann"))), "name")

    def test_an_unsaid_answer(self):
        gone = laid(TALK, "ann", ("unsay", (3, "ann")), "bob")
        for hand in ("ann", "bob"):
            self.assertEqual(misfit(gone, hand, ("unsay", (3, "ann"))), "gone")
        self.assertIsNone(misfit(gone, "ann", ("unsay", (4, "ann"))))
        self.assertIsNone(misfit(gone, "ann", ("unsay", REMARK)))
        self.assertIsNone(misfit(gone, "bob", ("answer", REMARK, "no")))

    def test_an_unsay_that_is_not_known_does_nothing(self):
        gone = laid(HUNG, "b", ("unsay", REMARK))
        self.assertIsNone(misfit(HUNG, "cyr", ("answer", REMARK, "no")))
        self.assertEqual(misfit(together(gone, laid(HUNG, "cyr", ("settle", REMARK))), "ann", ("open", REMARK)), "gone")

    def test_the_first_word_goes(self):
        settled = laid(TALK, "ann", ("settle", REMARK))
        gone = laid(settled, "ann", ("unsay", REMARK), "ann")
        self.assertEqual(misfit(TALK, "bob", ("unsay", (1, "ann"))), "name")
        self.assertEqual(misfit(gone, "bob", ("unsay", REMARK)), "gone")
        self.assertEqual(misfit(gone, "ann", ("open", REMARK)), "gone")
        self.assertEqual(misfit(laid(HUNG, "ann", ("unsay", REMARK)), "ann", ("open", REMARK)), "gone")
        self.assertEqual(misfit(HUNG, "ann", ("open", (1, "ann"))), "name")


class Opens(unittest.TestCase):
    def test_ahead_of_behind_and_again(self):
        ledger = HUNG
        for deed, told in (
            (("answer", REMARK, "no"), "open"), (("settle", REMARK), None), (("settle", REMARK), None),
            (("open", REMARK), "open"), (("take", 0, 1), "open"), (("settle", REMARK), None),
        ):
            ledger = laid(ledger, "ann", deed)
            self.assertEqual(misfit(ledger, "bob", ("open", REMARK)), told)
        self.assertEqual(misfit(HUNG, "bob", ("open", REMARK)), "open")

    def test_of_two_branches_by_the_greatest_name(self):
        settled = laid(HUNG, "ann", ("settle", REMARK))
        for left, right, told in (("settle", "open", "open"), ("open", "settle", None)):
            ledger = together(laid(settled, "b", (left, REMARK)), laid(settled, "cyr", (right, REMARK)))
            self.assertEqual(misfit(ledger, "ann", ("open", REMARK)), told)

    def test_of_another_remark(self):
        two = laid(HUNG, "ann", ("hang", 0, 1, "wide", "so"))
        ledger = laid(two, "ann", ("settle", REMARK))
        self.assertIsNone(misfit(ledger, "ann", ("open", REMARK)))
        self.assertEqual(misfit(ledger, "ann", ("open", (3, "ann"))), "open")


class Joins(unittest.TestCase):
    def test_tops(self):
        self.assertEqual(misfit((), "ann", ("join",)), "join")
        self.assertEqual(misfit(START, "ann", ("join",)), "join")
        two = together(laid(START, "b", ("take", 0, 1)), laid(START, "cyr", ("take", 0, 1)))
        self.assertIsNone(misfit(two, "ann", ("join",)))
        self.assertIsNone(misfit(together(two, laid((), "dd", ("put", 0, "x"))), "ann", ("join",)))
        self.assertEqual(misfit(laid(two, "b", ("join",)), "ann", ("join",)), "join")


def any_deed(chance, ledger):
    """A DEED by kind that may fit or not."""
    n = len(model.text(ledger)) + 1
    place = lambda: chance.randint(-1, n)
    names = [change[0] for change in ledger] + [(9, "zz")]
    said = [change[0] for change in ledger if change[3][0] in ("hang", "answer", "take", "unsay")] or names
    name = chance.choice(chance.choice((names, said, said)))
    return chance.choice([
        ("put", place(), "x"), ("take", place(), place()), ("hang", place(), place(), "wide", "so"),
        ("move", place(), place(), place()), ("back", name), ("answer", name, "no"), ("settle", name),
        ("open", name), ("unsay", name), ("unsay", name), ("join",),
    ])


class ManyLedgers(unittest.TestCase):
    def test_by_the_words_of_the_document(self):
        chance = random.Random(5)
        told = {}
        for seed in range(120):
            ledger = remark_ledger(seed)
            kept = repr(ledger)
            for _ in range(30):
                hand, deed = chance.choice(("ann", "bob")), any_deed(chance, ledger)
                word = misfit(ledger, hand, deed)
                self.assertEqual(word, model.misfit(ledger, hand, deed), (ledger, hand, deed))
                self.assertEqual(word, misfit(ledger, hand, deed))
                told.setdefault(deed[0], set()).add(word)
            self.assertEqual(repr(ledger), kept)
        places = {None, "place"}
        self.assertEqual(told, {
            "put": places, "take": places, "hang": places, "move": places, "back": {None, "name"},
            "answer": {None, "name", "gone"}, "settle": {None, "name", "gone"},
            "open": {None, "name", "gone", "open"}, "unsay": {None, "name", "gone", "hand"}, "join": {None, "join"},
        })

    def test_each_change_fits_what_it_knows(self):
        for seed in range(60):
            ledger = remark_ledger(seed)
            for name, hand, _, deed in ledger:
                self.assertIsNone(misfit(model.known(ledger, name), hand, deed))


if __name__ == "__main__":
    unittest.main()
