"""Points [23], [24], [58], with [4]: letters and TEXTS."""

import unittest

from marginwords.knowing import known, upto
from marginwords.showing import all_signs, is_shown, moves_of
from marginwords.texts import letter_of, signs, text
from tests import model
from tests.ledgers import any_ledger, laid, part_of, remark_ledger, rows_on, together

A, B, C, D = [(1, "ann", k) for k in range(4)]
START = rows_on((), "ann", ("put", 0, "abcd"))


class OneBranch(unittest.TestCase):
    def test_none(self):
        self.assertEqual((signs(()), text(())), ((), ""))
        gone = laid(START, "ann", ("take", 0, 4))
        self.assertEqual((signs(gone), text(gone)), ((), ""))

    def test_a_put(self):
        self.assertEqual((signs(START), text(START)), ((A, B, C, D), "abcd"))

    def test_all_deeds_one_by_one(self):
        ledger = rows_on(
            (), "ann", ("put", 0, "he says"), ("put", 2, " ya"), ("take", 0, 3), ("move", 0, 3, 7),
            ("back", (3, "ann")), ("hang", 0, 2, "wide", "who"), ("settle", (6, "ann")), ("unsay", (6, "ann")),
        )
        texts = ["he says", "he ya says", "ya says", "saysya ", "he saysya "] + ["he saysya "] * 3
        for k, wanted in enumerate(texts):
            self.assertEqual(text(upto(ledger, (k + 1, "ann"))), wanted)
        self.assertEqual(
            signs(ledger),
            ((1, "ann", 0), (1, "ann", 1), (2, "ann", 0))
            + tuple((1, "ann", k) for k in (3, 4, 5, 6))
            + ((2, "ann", 1), (2, "ann", 2), (1, "ann", 2)),
        )

    def test_letters(self):
        ledger = rows_on((), "ann", ("put", 0, "a b"), ("put", 3, " "), ("take", 0, 1), ("move", 0, 1, 3))
        self.assertEqual([letter_of(ledger, sign) for sign in all_signs(ledger)], ["a", " ", "b", " "])
        self.assertEqual(letter_of(ledger, (2, "ann", 0)), " ")
        self.assertEqual(text(ledger), "b  ")


class Branches(unittest.TestCase):
    def test_puts_side_by_side(self):
        ledger = together(laid(START, "b", ("put", 1, "xy")), laid(START, "cyr", ("put", 1, "z")))
        self.assertEqual(text(ledger), "azxybcd")
        self.assertEqual(signs(ledger), (A, (2, "cyr", 0), (2, "b", 0), (2, "b", 1), B, C, D))
        self.assertEqual(letter_of(ledger, (2, "b", 1)), "y")

    def test_a_take_a_move_and_a_back(self):
        ledger = together(laid(START, "b", ("take", 0, 2)), laid(START, "cyr", ("move", 0, 3, 4)))
        self.assertEqual((text(ledger), signs(ledger)), ("dc", (D, C)))
        again = laid(ledger, "dd", ("back", (2, "b")))
        self.assertEqual((text(again), signs(again)), ("dabc", (D, A, B, C)))

    def test_two_moves_of_one_sign(self):
        ledger = together(laid(START, "b", ("move", 0, 2, 4)), laid(START, "cyr", ("move", 1, 3, 0)))
        self.assertEqual(text(ledger), "bcda")

    def test_a_text_put_by_three_at_the_beginning(self):
        ledger = together(*[laid((), word, ("put", 0, word + " ")) for word in ("b", "aa", "c")])
        self.assertEqual(text(ledger), "c b aa ")


class ManyLedgers(unittest.TestCase):
    def test_by_the_words_of_the_document(self):
        for seed in range(80):
            ledger = any_ledger(seed)
            kept = repr(ledger)
            for each in (ledger, part_of(seed, ledger)):
                self.assertEqual(signs(each), model.text(each))
                self.assertEqual(text(each), model.letters(each))
                self.assertEqual((signs(each), text(each)), (signs(each), text(each)))
                self.assertIs(type(signs(each)), tuple)
                self.assertIs(type(text(each)), str)
            for sign in all_signs(ledger):
                self.assertEqual(letter_of(ledger, sign), model.deed_of(ledger, sign[:2])[2][sign[2]])
            self.assertEqual(repr(ledger), kept)

    def test_what_says_something_or_joins_turns_no_text(self):
        for seed in range(60):
            ledger = remark_ledger(seed)
            for change in ledger:
                if change[3][0] not in ("put", "take", "move", "back"):
                    before = known(ledger, change[0])
                    self.assertEqual(signs(together(before, (change,))), signs(before))

    def test_what_no_move_of_one_alone_moved_stands_alike(self):
        for seed in range(120):
            ledger = remark_ledger(seed)
            part = part_of(seed, ledger)
            both = {
                sign for sign in all_signs(part)
                if is_shown(part, sign) and is_shown(ledger, sign)
                and moves_of(part, sign) == moves_of(ledger, sign)
            }
            row = [sign for sign in signs(ledger) if sign in both]
            self.assertEqual(row, [sign for sign in signs(part) if sign in both])
            self.assertEqual(len(row), len(both))


if __name__ == "__main__":
    unittest.main()
