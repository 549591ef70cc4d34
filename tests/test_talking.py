"""Point [46]: what is said of a REMARK."""

import unittest

from marginwords.spans import remarks
from marginwords.stands import stand
from marginwords.talking import answers, decided
from tests import model
from tests.ledgers import any_ledger, laid, remark_ledger, rows_on, together
from tests.things import name_refusal

START = rows_on((), "ann", ("put", 0, "abcd"))
HUNG = laid(START, "ann", ("hang", 1, 3, "shut", "why"), "ann")
REMARK = (2, "ann")


class Answers(unittest.TestCase):
    def test_none(self):
        self.assertEqual(answers(HUNG, REMARK), ())

    def test_several_of_several_hands_and_branches(self):
        left = laid(HUNG, "b", ("answer", REMARK, "yes so"), "bob")
        right = laid(HUNG, "cyr", ("answer", REMARK, "no"), "ann")
        told = (((3, "b"), "bob", "yes so"), ((3, "cyr"), "ann", "no"))
        self.assertEqual(answers(left, REMARK), told[:1])
        self.assertEqual(answers(together(left, right), REMARK), told)
        more = laid(together(left, right), "ann", ("answer", REMARK, "no"), "ann")
        self.assertEqual(answers(more, REMARK), told + (((4, "ann"), "ann", "no"),))

    def test_unsaid_ones_are_left_out(self):
        ledger = rows_on(HUNG, "b", ("answer", REMARK, "a"), ("answer", REMARK, "b"), ("answer", REMARK, "c"))
        gone = laid(ledger, "b", ("unsay", (4, "b")))
        self.assertEqual(answers(gone, REMARK), (((3, "b"), "ann", "a"), ((5, "b"), "ann", "c")))
        side = together(ledger, laid(rows_on(HUNG, "b", ("answer", REMARK, "a")), "cyr", ("unsay", (3, "b"))))
        self.assertEqual(answers(side, REMARK), (((4, "b"), "ann", "b"), ((5, "b"), "ann", "c")))
        all_gone = rows_on(ledger, "b", *[("unsay", (k, "b")) for k in (3, 4, 5)])
        self.assertEqual(answers(all_gone, REMARK), ())

    def test_of_another_remark(self):
        ledger = rows_on(HUNG, "ann", ("hang", 0, 1, "wide", "so"), ("answer", (3, "ann"), "no"))
        self.assertEqual(answers(ledger, REMARK), ())
        self.assertEqual(answers(ledger, (3, "ann")), (((4, "ann"), "ann", "no"),))


class Decided(unittest.TestCase):
    def test_none_a_settle_an_open(self):
        self.assertIsNone(decided(HUNG, REMARK))
        ledger = laid(HUNG, "ann", ("answer", REMARK, "no"))
        self.assertIsNone(decided(ledger, REMARK))
        for deed in ("settle", "open", "settle", "settle", "open"):
            ledger = laid(ledger, "ann", (deed, REMARK))
            self.assertEqual(decided(ledger, REMARK), (deed, ledger[-1][0]))
        self.assertEqual(decided(laid(ledger, "ann", ("take", 0, 4)), REMARK), ("open", (8, "ann")))

    def test_the_greatest_name_of_two_branches(self):
        settled = laid(HUNG, "ann", ("settle", REMARK))
        for left, right in (("settle", "open"), ("open", "settle")):
            ledger = together(laid(settled, "b", (left, REMARK)), laid(settled, "cyr", (right, REMARK)))
            self.assertEqual(decided(ledger, REMARK), (right, (4, "cyr")))
        far = rows_on(settled, "b", ("put", 0, "x"), ("open", REMARK))
        ledger = together(far, laid(settled, "cyr", ("settle", REMARK)))
        self.assertEqual(decided(ledger, REMARK), ("open", (5, "b")))

    def test_of_another_remark(self):
        ledger = rows_on(HUNG, "ann", ("hang", 0, 1, "wide", "so"), ("settle", (3, "ann")))
        self.assertIsNone(decided(ledger, REMARK))
        self.assertEqual(decided(ledger, (3, "ann")), ("settle", (4, "ann")))


class Both(unittest.TestCase):
    talk = rows_on(HUNG, "b", ("answer", REMARK, "no"), ("settle", REMARK))

    def test_of_one_that_is_lost_or_unsaid(self):
        for deed, word in ((("take", 0, 4), "lost"), (("unsay", REMARK), "unsaid")):
            ledger = laid(self.talk, "ann", deed)
            self.assertEqual(stand(ledger, REMARK)[0], word)
            self.assertEqual(answers(ledger, REMARK), (((3, "b"), "ann", "no"),))
            self.assertEqual(decided(ledger, REMARK), ("settle", (4, "b")))

    def test_no_name(self):
        for name in ((1, "ann"), (3, "b"), (4, "b"), (2, "b"), (10**199, "ann")):
            for ask in (answers, decided):
                self.assertEqual(name_refusal(ask, self.talk, name), (name,))
                self.assertEqual(name_refusal(ask, (), name), (name,))

    def test_by_the_words_of_the_document(self):
        words = set()
        for seed in range(200):
            for ledger in (remark_ledger(seed), any_ledger(seed, 16)):
                kept = repr(ledger)
                for remark in remarks(ledger):
                    told = tuple(
                        (name, hand, deed[2]) for name, hand, _, deed in ledger
                        if deed[:2] == ("answer", remark) and not model.said(ledger, ["unsay"], name)
                    )
                    last = max(model.said(ledger, ["settle", "open"], remark), default=None)
                    by = last and (model.deed_of(ledger, last)[0], last)
                    words.add((len(told) > 0, by and by[0]))
                    for _ in range(2):
                        self.assertEqual(answers(ledger, remark), told)
                        self.assertEqual(decided(ledger, remark), by)
                    self.assertIs(type(answers(ledger, remark)), tuple)
                self.assertEqual(repr(ledger), kept)
        self.assertEqual({by for _, by in words}, {None, "settle", "open"})
        self.assertEqual({some for some, _ in words}, {True, False})


if __name__ == "__main__":
    unittest.main()
