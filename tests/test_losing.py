"""Points [43], [44], [45], with [5]: LAST ROWS, LOSERS, and papers of them."""

import random
import unittest

from marginwords.holding import held
from marginwords.holdpapers import hold_paper
from marginwords.losing import last_row, loser
from marginwords.losschecker import lets_loss
from marginwords.losspapers import loss_paper
from marginwords.showing import all_signs, is_shown
from marginwords.spans import remarks
from marginwords.stands import stand
from tests import model
from tests.ledgers import any_ledger, laid, remark_ledger, rows_on, together
from tests.things import ODD, name_refusal, paper_refusal

A, B, C, D = [(1, "ann", k) for k in range(4)]
START = rows_on((), "ann", ("put", 0, "abcd"))
NAME = (2, "hh")


def hung(i, j, edge="shut"):
    """The START with a REMARK of the NAME (2, "hh")."""
    return laid(START, "hh", ("hang", i, j, edge, "why"))


class LastRows(unittest.TestCase):
    def test_shown(self):
        self.assertEqual(last_row(START, A), ())
        ledger = rows_on(START, "b", ("take", 0, 1), ("back", (2, "b")))
        self.assertEqual(last_row(ledger, A), ())
        self.assertEqual(last_row(ledger, B), ())

    def test_taken_once_and_by_two(self):
        ledger = laid(START, "b", ("take", 0, 2))
        self.assertEqual([last_row(ledger, sign) for sign in (A, B, C)], [((2, "b"),), ((2, "b"),), ()])
        both = together(ledger, laid(START, "a", ("take", 1, 3)))
        self.assertEqual(
            [last_row(both, sign) for sign in (A, B, C)], [((2, "b"),), ((2, "a"), (2, "b")), ((2, "a"),)]
        )

    def test_put_back_and_taken_again(self):
        ledger = rows_on(START, "b", ("take", 0, 2), ("back", (2, "b")), ("take", 0, 1))
        self.assertEqual([last_row(ledger, sign) for sign in (A, B)], [((4, "b"),), ()])
        side = together(ledger, rows_on(START, "cyr", ("put", 4, "x"), ("put", 4, "y"), ("take", 0, 2)))
        self.assertEqual([last_row(side, sign) for sign in (A, B)], [((4, "b"), (4, "cyr")), ((4, "cyr"),)])
        early = together(ledger, laid(START, "cyr", ("take", 0, 2)))
        self.assertEqual([last_row(early, sign) for sign in (A, B)], [((4, "b"),), ()])

    def test_by_the_words_of_the_document(self):
        lengths = set()
        for seed in range(120):
            for ledger in (any_ledger(seed), remark_ledger(seed)):
                kept = repr(ledger)
                for sign in all_signs(ledger):
                    row = last_row(ledger, sign)
                    lengths.add(len(row))
                    self.assertEqual(row, model.last_row(ledger, sign))
                    self.assertEqual(row, last_row(ledger, sign))
                    self.assertIs(type(row), tuple)
                    self.assertEqual(row == (), is_shown(ledger, sign))
                self.assertEqual(repr(ledger), kept)
        self.assertGreaterEqual(lengths, {0, 1, 2})


class Losers(unittest.TestCase):
    def asked(self, ledger, name, told):
        self.assertEqual(stand(ledger, name), ("lost", told))
        self.assertEqual(loser(ledger, name), told)

    def test_there_or_unsaid(self):
        self.assertIsNone(loser(hung(1, 3), NAME))
        self.assertIsNone(loser(laid(hung(1, 3), "b", ("take", 1, 2)), NAME))
        lost = laid(hung(1, 3), "b", ("take", 0, 4))
        self.assertIsNone(loser(laid(lost, "b", ("unsay", NAME)), NAME))
        self.assertIsNone(loser(laid(hung(1, 3), "b", ("unsay", NAME)), NAME))
        self.assertIsNone(loser(laid(lost, "b", ("back", (3, "b"))), NAME))

    def test_the_last_taker_has_the_greatest_name(self):
        self.asked(together(hung(1, 3), laid(START, "b", ("take", 0, 4))), NAME, (2, "b"))
        self.asked(rows_on(hung(1, 3), "b", ("take", 1, 2), ("take", 1, 2)), NAME, (4, "b"))

    def test_several_held_signs_taken_by_several(self):
        ledger = together(hung(0, 2), laid(START, "b", ("take", 0, 1)), laid(START, "cyr", ("take", 1, 2)))
        self.asked(ledger, NAME, (2, "cyr"))
        far = rows_on(START, "b", ("put", 4, "x"), ("take", 0, 1))
        ledger = together(hung(0, 2), far, laid(START, "cyr", ("take", 1, 2)))
        self.asked(ledger, NAME, (3, "b"))

    def test_another_take_of_what_was_lost_already(self):
        # cyr takes it once more, with the greater name, but it was gone with b's
        late = rows_on(START, "cyr", ("put", 4, "x"), ("take", 0, 2))
        self.asked(together(hung(0, 2), laid(START, "b", ("take", 0, 2)), late), NAME, (2, "b"))

    def test_a_lesser_name_than_its_own(self):
        far = rows_on(START, "hh", ("put", 4, "x"), ("put", 5, "y"), ("hang", 0, 2, "shut", "why"))
        self.asked(together(far, laid(START, "b", ("take", 0, 2))), (4, "hh"), (2, "b"))

    def test_a_hidden_one_that_was_taken_by_one_that_is_known(self):
        # b is in the span of ac, taken at 3 by hh itself; a and c are taken at 2
        far = rows_on(START, "hh", ("put", 4, "x"), ("take", 1, 2), ("hang", 0, 2, "shut", "why"))
        ledger = together(far, laid(START, "b", ("take", 0, 3)))
        self.assertEqual(held(ledger, (4, "hh")), (A, B, C))
        self.assertEqual(last_row(ledger, B), ((2, "b"), (3, "hh")))
        self.asked(ledger, (4, "hh"), (2, "b"))
        # put back and taken again it counts: that take is not known
        more = rows_on(far, "hh", ("back", (3, "hh")), ("take", 1, 2))
        self.asked(together(more, laid(START, "b", ("take", 0, 3))), (4, "hh"), (6, "hh"))

    def test_signs_that_were_put_later_and_taken(self):
        ledger = rows_on(hung(0, 2), "b", ("put", 1, "x"), ("take", 0, 1), ("take", 1, 2))
        self.assertEqual(stand(ledger, NAME), ("there", ((0, 1),)))
        self.asked(laid(ledger, "b", ("take", 0, 1)), NAME, (6, "b"))

    def test_no_name(self):
        ledger = rows_on(hung(1, 3), "hh", ("answer", NAME, "no"), ("take", 0, 4))
        for name in ((1, "ann"), (3, "hh"), (4, "hh"), (2, "b")):
            for ask in (loser, loss_paper, hold_paper):
                self.assertEqual(name_refusal(ask, ledger, name), (name,))
                self.assertEqual(name_refusal(ask, (), name), (name,))
            for thing in (None, ((), ())):
                self.assertEqual(name_refusal(lets_loss, ledger, name, (4, "hh"), thing), (name,))

    def test_it_is_lost_with_the_very_change(self):
        many = lesser = 0
        for seed in range(700):
            ledger = remark_ledger(seed)
            for name in remarks(ledger):
                told = loser(ledger, name)
                wanted = model.stand(ledger, name)
                self.assertEqual(told, wanted[1] if wanted[0] == "lost" else None)
                if told is None:
                    continue
                many += 1
                lesser += told < name
                inside = {name, *model.elders(ledger, name)}
                ahead = [change for change in ledger if change[0] in inside or change[0] < told]
                self.assertEqual(stand(tuple(ahead), name)[0], "there")
                for change in [change for change in ledger if change not in ahead]:
                    ahead.append(change)
                    self.assertEqual(stand(tuple(sorted(ahead)), name)[0], "lost")
                self.assertEqual(loser(tuple(sorted(ahead)), name), told)
        self.assertGreater(many, 50)
        self.assertGreater(lesser, 10)


# b is taken by hh ahead of the hang on ac, shut; b's branch takes abc, cyr takes a; x within the span is taken by hh.
LEDGER = together(
    rows_on(START, "hh", ("take", 1, 2), ("hang", 0, 2, "shut", "why"), ("put", 1, "x"), ("take", 1, 2)),
    laid(START, "b", ("take", 0, 3)),
    laid(START, "cyr", ("take", 0, 1)),
)
REMARK = (3, "hh")
LOSER = (5, "hh")
X = (4, "hh", 0)
HOLDS = (
    (A, X, B, C, D),
    ((A, "stretch", ()), (B, "span", ()), (C, "stretch", ()), (D, "out", ()), (X, "span", ())),
)
ROWS = (((2, "b"), (2, "cyr")), ((2, "b"), (2, "hh")), ((2, "b"),), ((5, "hh"),))
PAPER = (HOLDS, ROWS)


def refusal(thing, name=LOSER, ledger=LEDGER, remark=REMARK):
    return paper_refusal(lets_loss, ledger, remark, name, thing)


class LossPapers(unittest.TestCase):
    def test_the_paper_itself(self):
        self.assertEqual(stand(LEDGER, REMARK), ("lost", LOSER))
        self.assertIs(lets_loss(LEDGER, REMARK, LOSER, PAPER), True)
        self.assertEqual(loss_paper(LEDGER, REMARK), (LOSER, PAPER))
        self.assertEqual(hold_paper(LEDGER, REMARK), HOLDS)

    def test_shape(self):
        for odd in ODD + (list(PAPER), PAPER[:1], PAPER + ((),), (HOLDS, list(ROWS)), (HOLDS, None), (HOLDS, 0)):
            if repr(odd) not in (repr(((), ())), repr(([], ()))):
                kept = repr(odd)
                self.assertEqual(refusal(odd), ("shape", -1), odd)
                self.assertEqual(repr(odd), kept)

    def test_unsaid(self):
        gone = laid(LEDGER, "hh", ("unsay", REMARK))
        self.assertEqual(refusal(PAPER, ledger=gone), ("unsaid", -1))
        self.assertEqual(refusal((None, ()), ledger=gone), ("unsaid", -1))
        self.assertEqual(refusal((None, []), ledger=gone), ("shape", -1))

    def test_holds(self):
        order, entries = HOLDS
        for holds in ODD + (
            list(HOLDS), (order, entries[:-1]), (order[1:], entries), (order, entries[:3] + ((D, "span", ()), entries[4])),
            (order, (((True, "ann", 0), *entries[0][1:]),) + entries[1:]), (((True, "ann", 0), *order[1:]), entries),
        ):
            self.assertEqual(refusal((holds, ROWS)), ("holds", -1), holds)
            self.assertEqual(refusal((holds, ())), ("holds", -1), holds)

    def test_many(self):
        for rows in ((), ROWS[:-1], ROWS[1:], ROWS + (ROWS[-1],), ROWS + ((),), (None,)):
            self.assertEqual(refusal((HOLDS, rows)), ("many", -1))

    def test_row(self):
        for k in range(4):
            for odd in ODD + (list(ROWS[k]), ROWS[k][1:], ROWS[k] * 2, ROWS[k] + ((9, "zz"),), (list(ROWS[k][0]),)):
                self.assertEqual(refusal((HOLDS, ROWS[:k] + (odd,) + ROWS[k + 1 :])), ("row", k), odd)
        self.assertEqual(refusal((HOLDS, (ROWS[0][::-1],) + ROWS[1:])), ("row", 0))
        self.assertEqual(refusal((HOLDS, (ROWS[1], ROWS[0]) + ROWS[2:])), ("row", 0))
        self.assertEqual(refusal((HOLDS, (None, None, None, None))), ("row", 0))

    def test_row_of_a_sign_that_is_shown(self):
        back = laid(LEDGER, "hh", ("back", (2, "b")))
        holds = model.hold_paper(back, REMARK)
        rows = tuple(model.last_row(back, sign) for sign in model.held(back, REMARK))
        self.assertEqual(rows[:3], ((), (), ()))
        self.assertEqual(refusal((holds, rows), ledger=back), ("row", 0))
        lone = laid(hung(0, 2), "b", ("take", 0, 1))
        right = (model.hold_paper(lone, NAME), (((3, "b"),), ()))
        self.assertEqual(refusal(right, (3, "b"), lone, NAME), ("row", 1))
        self.assertIsNone(loss_paper(lone, NAME))

    def test_loser(self):
        for name in ((2, "b"), (2, "cyr"), (2, "hh"), (3, "hh"), (4, "hh"), (1, "ann"), (5, "b"), (10**199, "hh")):
            self.assertEqual(refusal(PAPER, name), ("loser", -1))

    def test_a_truth_is_no_number(self):
        # nothing can be lost with a change of count 1, but names in rows and papers have such counts
        spoilt = (HOLDS[0], ((A[:2] + (False,), "stretch", ()),) + HOLDS[1][1:])
        self.assertEqual(refusal((spoilt, ROWS)), ("holds", -1))
        spoilt = (HOLDS[0][:2] + ((1, "ann", True),) + HOLDS[0][3:], HOLDS[1])
        self.assertEqual(refusal((spoilt, ROWS)), ("holds", -1))

    def test_two_due_at_once(self):
        self.assertEqual(refusal((HOLDS, (None,) * 3), (2, "b")), ("many", -1))
        self.assertEqual(refusal((HOLDS, ROWS[:2] + (None, None)), (2, "b")), ("row", 2))
        self.assertEqual(refusal((None, (None,)), (2, "b")), ("holds", -1))
        self.assertEqual(refusal((None, None), (2, "b")), ("shape", -1))

    def test_none_where_it_is_not_lost(self):
        self.assertIsNone(loss_paper(hung(1, 3), NAME))
        self.assertIsNone(loss_paper(laid(LEDGER, "hh", ("unsay", REMARK)), REMARK))
        self.assertIsNone(loss_paper(laid(LEDGER, "hh", ("back", (2, "b"))), REMARK))

    def test_of_many_ledgers(self):
        chance = random.Random(8)
        many = 0
        for seed in range(400):
            ledger = remark_ledger(seed)
            kept = repr(ledger)
            for remark in remarks(ledger):
                told = loss_paper(ledger, remark)
                wanted = model.stand(ledger, remark)
                self.assertEqual(told and ("lost", told[0]), wanted if wanted[0] == "lost" else None)
                if told is None:
                    rows = tuple(model.last_row(ledger, sign) for sign in model.held(ledger, remark))
                    thing = (model.hold_paper(ledger, remark), rows)
                    word = "unsaid" if wanted[0] == "unsaid" else "row"
                    for change in ledger:
                        self.assertEqual(refusal(thing, change[0], ledger, remark)[0], word)
                    continue
                many += 1
                name, paper = told
                self.assertIs(lets_loss(ledger, remark, name, paper), True)
                self.assertEqual(loss_paper(ledger, remark), told)
                for change in ledger:
                    if change[0] != name:
                        self.assertEqual(refusal(paper, change[0], ledger, remark), ("loser", -1))
                k = chance.randrange(len(paper[1]))
                spoilt = paper[1][:k] + (paper[1][k] + (name,),) + paper[1][k + 1 :]
                self.assertEqual(refusal((paper[0], spoilt), name, ledger, remark), ("row", k))
            self.assertEqual(repr(ledger), kept)
        self.assertGreater(many, 30)


if __name__ == "__main__":
    unittest.main()
