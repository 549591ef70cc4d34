"""Point [40]: the look at HOLD PAPERS."""

import random
import unittest

from marginwords.holdchecker import lets_held
from marginwords.holding import held
from marginwords.spans import remarks
from tests import model
from tests.ledgers import laid, remark_ledger, rows_on, together
from tests.things import ODD, paper_refusal

A, B, C, D = [(1, "ann", k) for k in range(4)]
START = rows_on((), "ann", ("put", 0, "abcd"))
# c is taken ahead of the hang on ab and d, shut; b moves ab behind d and puts x between them, y behind b.
HUNG = rows_on(START, "hh", ("take", 2, 3), ("hang", 0, 3, "shut", "why"))
MOVED = rows_on(START, "b", ("move", 0, 2, 4), ("put", 3, "x"), ("put", 5, "y"))
LEDGER = together(HUNG, MOVED)
NAME = (3, "hh")
M, N, X, Y = (2, "b", 0), (2, "b", 1), (3, "b", 0), (4, "b", 0)
ORDER = (A, B, C, D, M, X, N, Y)
ENTRIES = (
    (A, "stretch", ()), (B, "stretch", ()), (C, "span", ()), (D, "stretch", ()), (X, "row", M), (Y, "out", ()),
)
PAPER = (ORDER, ENTRIES)


def refusal(thing, ledger=LEDGER, name=NAME):
    return paper_refusal(lets_held, ledger, name, thing)


def entries_with(k, place, thing):
    """The entries, with another thing at this place of entry k."""
    entry = ENTRIES[k][:place] + (thing,) + ENTRIES[k][place + 1 :]
    return ENTRIES[:k] + (entry,) + ENTRIES[k + 1 :]


class Right(unittest.TestCase):
    def test_the_paper_itself(self):
        self.assertEqual(lets_held(LEDGER, NAME, PAPER), (A, B, C, D, X))
        self.assertEqual(lets_held(LEDGER, NAME, PAPER), (A, B, C, D, X))
        self.assertIs(type(lets_held(LEDGER, NAME, PAPER)), tuple)

    def test_of_another_remark_and_another_ledger(self):
        self.assertEqual(lets_held(HUNG, NAME, (ORDER[:4], ENTRIES[:4])), (A, B, C, D))
        # this one knows the move: d between c and a, and nothing else
        whole = laid(MOVED, "z", ("hang", 1, 2, "wide", "so"))
        entries = ((A, "out", ()), (B, "out", ()), (C, "out", ()), (D, "stretch", ()), (X, "out", ()), (Y, "out", ()))
        self.assertEqual(lets_held(whole, (5, "z"), (ORDER, entries)), (D,))

    def test_a_sign_that_is_known_has_no_slot(self):
        ledger = laid(MOVED, "z", ("hang", 2, 5, "shut", "so"))
        entries = tuple((sign, "stretch" if sign in (A, X, B) else "out", ()) for sign in (A, B, C, D, X, Y))
        self.assertEqual(lets_held(ledger, (5, "z"), (ORDER, entries)), (A, B, X))
        spoilt = entries[:4] + ((X, "stretch", M),) + entries[5:]
        self.assertEqual(refusal((ORDER, spoilt), ledger, (5, "z")), ("within", 4))


class Refused(unittest.TestCase):
    def test_shape(self):
        for odd in ODD + (list(PAPER), PAPER + ((),), PAPER[:1], (list(ORDER), ENTRIES), (ORDER, list(ENTRIES))):
            if repr(odd) != repr(((), ())):
                kept = repr(odd)
                told = refusal(odd)
                self.assertEqual(told, ("shape", -1), odd)
                self.assertEqual(repr(odd), kept)

    def test_shape_of_an_entry(self):
        for k in (0, 3, 5):
            for odd in ODD:
                if repr(odd) not in (repr(((), (), ())), repr((1, "ann", 0)), repr(("put", 0, "a"))):
                    self.assertEqual(refusal((ORDER, ENTRIES[:k] + (odd,) + ENTRIES[k + 1 :])), ("shape", k), odd)
            for odd in (list(ENTRIES[k]), ENTRIES[k][:2], ENTRIES[k] + ((),)):
                self.assertEqual(refusal((ORDER, ENTRIES[:k] + (odd,) + ENTRIES[k + 1 :])), ("shape", k))
        self.assertEqual(refusal((ORDER, ENTRIES + (None,))), ("shape", 6))

    def test_many(self):
        for entries in ((), ENTRIES[:-1], ENTRIES[1:], ENTRIES + ENTRIES[-1:], ENTRIES + ((None, None, None),)):
            self.assertEqual(refusal((ORDER, entries)), ("many", -1))
        self.assertEqual(refusal(((), ())), ("many", -1))

    def test_order(self):
        for order in (
            (), ORDER[:-1], ORDER + (Y,), ORDER[::-1], (B, A) + ORDER[2:], ((True, "ann", 0),) + ORDER[1:],
            ((1, "ann", False),) + ORDER[1:], (A, (1, "ann", True)) + ORDER[2:], (list(A),) + ORDER[1:],
        ):
            self.assertEqual(refusal((order, ENTRIES)), ("order", -1), order)
        for odd in ODD:
            self.assertEqual(refusal(((odd,) + ORDER[1:], ENTRIES)), ("order", -1) if odd != A else None)

    def test_sign(self):
        for k in range(6):
            for odd in ODD + (list(ENTRIES[k][0]), ENTRIES[k][0] + (0,), (D, C, B, A, Y, X)[k]):
                if repr(odd) != repr(ENTRIES[k][0]):
                    self.assertEqual(refusal((ORDER, entries_with(k, 0, odd))), ("sign", k), odd)
        self.assertEqual(refusal((ORDER, entries_with(0, 0, (True, "ann", 0)))), ("sign", 0))
        self.assertEqual(refusal((ORDER, entries_with(0, 0, (1, "ann", False)))), ("sign", 0))
        self.assertEqual(refusal((ORDER, entries_with(1, 0, (1, "ann", True)))), ("sign", 1))
        self.assertEqual(refusal((ORDER, (ENTRIES[1], ENTRIES[0]) + ENTRIES[2:])), ("sign", 0))

    def test_within(self):
        for k in range(6):
            for odd in ODD + (M, N, [], list(M), (2, "b", False)):
                if repr(odd) != repr(ENTRIES[k][2]):
                    self.assertEqual(refusal((ORDER, entries_with(k, 2, odd))), ("within", k), odd)

    def test_word(self):
        for k in range(6):
            for odd in ODD + ("stretch", "span", "row", "out", ("out",)):
                if repr(odd) != repr(ENTRIES[k][1]):
                    self.assertEqual(refusal((ORDER, entries_with(k, 1, odd))), ("word", k), odd)

    def test_two_due_at_once(self):
        self.assertEqual(refusal([None, [None]]), ("shape", -1))
        self.assertEqual(refusal((None, ENTRIES[:2] + (None,))), ("shape", -1))
        self.assertEqual(refusal(((), (None,) + ENTRIES[2:])), ("shape", 0))
        self.assertEqual(refusal(((), (ENTRIES[0], None, None))), ("shape", 1))
        self.assertEqual(refusal(((), ENTRIES[1:])), ("many", -1))
        self.assertEqual(refusal(((), entries_with(0, 0, None))), ("order", -1))
        for k in range(6):
            spoilt = ENTRIES[:k] + ((None, None, None),) + ENTRIES[k + 1 :]
            self.assertEqual(refusal((ORDER, spoilt)), ("sign", k))
            spoilt = ENTRIES[:k] + ((ENTRIES[k][0], None, None),) + ENTRIES[k + 1 :]
            self.assertEqual(refusal((ORDER, spoilt)), ("within", k))
        # what is due at a lesser entry goes ahead
        spoilt = ((A, None, ()),) + ((None, None, None),) * 5
        self.assertEqual(refusal((ORDER, spoilt)), ("word", 0))
        spoilt = ENTRIES[:4] + ((X, "out", M), (None, None, None))
        self.assertEqual(refusal((ORDER, spoilt)), ("word", 4))


class ManyLedgers(unittest.TestCase):
    def test_right_papers_and_spoilt_ones(self):
        chance = random.Random(2)
        words = set()
        for seed in range(120):
            ledger = remark_ledger(seed)
            kept = repr(ledger)
            for name in remarks(ledger):
                paper = model.hold_paper(ledger, name)
                self.assertEqual(lets_held(ledger, name, paper), held(ledger, name))
                wrong, wanted = spoilt(chance, paper)
                words.add(wanted[0])
                before = repr(wrong)
                self.assertEqual(refusal(wrong, ledger, name), wanted)
                self.assertEqual(repr(wrong), before)
            self.assertEqual(repr(ledger), kept)
        self.assertEqual(words, {"shape", "many", "order", "sign", "within", "word"})

    def test_papers_of_others(self):
        # what is the paper of another remark is let by just where it is that of this one, too
        for seed in range(60):
            ledger = remark_ledger(seed)
            for name in remarks(ledger):
                for other in remarks(ledger):
                    paper = model.hold_paper(ledger, other)
                    same = paper == model.hold_paper(ledger, name)
                    self.assertEqual(refusal(paper, ledger, name) is None, same)


def spoilt(chance, paper):
    """A paper with one fault, and the refusal that is due."""
    order, entries = paper
    k = chance.randrange(len(entries))
    sign, word, slot = entries[k]
    others = [each for each in ("stretch", "span", "row", "out") if each != word]
    what = chance.randrange(6)
    if what == 0:
        return (order, entries[:k] + ((sign, word),) + entries[k + 1 :]), ("shape", k)
    if what == 1:
        return (order, entries[:k] + entries[k + 1 :]), ("many", -1)
    if what == 2:
        return (order[1:] + order[:1], entries), ("order", -1)
    changed = {
        3: (((sign[0], sign[1], sign[2] + 1), word, slot), ("sign", k)),
        4: ((sign, word, sign if slot == () else ()), ("within", k)),
        5: ((sign, chance.choice(others), slot), ("word", k)),
    }
    entry, wanted = changed[what]
    return (order, entries[:k] + (entry,) + entries[k + 1 :]), wanted


if __name__ == "__main__":
    unittest.main()
