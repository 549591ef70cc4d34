"""Points [51], [52], [53], [54]: what is kept of two SIGN ROWS, FALLING ROWS, and papers of them."""

import itertools
import random
import unittest

from marginwords.keepchecker import lets_kept
from marginwords.keeping import falling_rows, keep_paper, kept
from marginwords.texts import signs
from tests import rowmodel
from tests.ledgers import any_ledger, part_of
from tests.things import ODD, paper_refusal

A, B, C, D, E, F = [(1, "ann", k) for k in range(6)]
FORTY = tuple((1 + k // 12, "b" if k % 3 else "ann", k % 12) for k in range(40))


def refusal(one, other, thing):
    return paper_refusal(lets_kept, one, other, thing)


class Rows(unittest.TestCase):
    def told(self, one, other, many):
        """All three tell what is right, and as long, as few, as this."""
        for _ in range(2):
            row = kept(one, other)
            rows = falling_rows(one, other)
            self.assertEqual((type(row), type(rows)), (tuple, tuple))
            self.assertTrue(rowmodel.is_kept(one, other, row))
            self.assertTrue(all(type(each) is tuple and rowmodel.is_falling(one, other, each) for each in rows))
            found = [sign for each in rows for sign in each]
            self.assertEqual(sorted(found), sorted(set(one) & set(other)))
            self.assertEqual((len(row), len(rows)), (many, many))
            paper = keep_paper(one, other)
            self.assertEqual((type(paper), len(paper)), (tuple, 2))
            self.assertEqual(lets_kept(one, other, paper), many)
            self.assertIs(type(lets_kept(one, other, paper)), int)

    def test_none_is_common(self):
        for one, other in (((), ()), ((A, B), ()), ((), (A, B)), ((A, B), (C, D))):
            self.told(one, other, 0)
            self.assertEqual((kept(one, other), falling_rows(one, other)), ((), ()))
            self.assertEqual(keep_paper(one, other), ((), ()))

    def test_alike(self):
        self.told((A,), (A,), 1)
        self.told((B, A, C), (B, A, C), 3)
        self.assertEqual(kept((B, A, C), (B, A, C)), (B, A, C))
        self.told(FORTY, FORTY, 40)

    def test_turned_about(self):
        self.told((A, B, C), (C, B, A), 1)
        self.assertEqual(falling_rows((A, B, C), (C, B, A)), ((A, B, C),))
        self.told(FORTY, FORTY[::-1], 1)

    def test_one_moved(self):
        self.told((A, B, C, D), (D, A, B, C), 3)
        self.assertEqual(kept((A, B, C, D), (D, A, B, C)), (A, B, C))
        self.told((A, B, C, D), (B, C, D, A), 3)

    def test_blocks_moved(self):
        self.told((A, B, C, D, E), (C, D, E, A, B), 3)
        self.told((A, B, C, D, E, F), (E, F, C, D, A, B), 2)
        self.told(FORTY, FORTY[30:] + FORTY[10:30] + FORTY[:10], 20)
        blocks = [FORTY[k : k + 5] for k in range(0, 40, 5)]
        self.told(FORTY, tuple(sign for block in blocks[::-1] for sign in block), 5)
        self.told(FORTY, tuple(sign for block in blocks for sign in block[::-1]), 8)

    def test_with_signs_of_one_alone(self):
        self.told((A, E, B), (B, F, A, D), 1)
        self.told((A, E, B), (A, F, B, D), 2)
        self.told((E, A), (A, F), 1)

    def test_a_row_that_a_greedy_hand_would_miss(self):
        self.told((A, B, C, D, E), (D, E, A, B, C), 3)
        self.told((A, B, C, D, E), (E, A, D, B, C), 3)
        self.told((A, B, C, D, E, F), (C, F, A, D, B, E), 3)

    def test_all_small_rows(self):
        whole = (A, B, C, D)
        for one in ((A, B, C, D), (B, D), (C, A, D), (E, A, F, B)):
            for many in range(5):
                for other in itertools.permutations(whole, many):
                    self.told(one, other, rowmodel.longest_kept(one, other))
                    self.assertEqual(rowmodel.longest_kept(one, other), rowmodel.fewest_falling(one, other))

    def test_rows_of_six(self):
        chance = random.Random(5)
        whole = [A, B, C, D, E, F]
        for _ in range(60):
            one = tuple(chance.sample(whole, chance.randint(4, 6)))
            other = tuple(chance.sample(whole, chance.randint(4, 6)))
            self.told(one, other, rowmodel.longest_kept(one, other))
            self.assertEqual(rowmodel.longest_kept(one, other), rowmodel.fewest_falling(one, other))

    def test_shuffled_rows_of_forty(self):
        chance = random.Random(6)
        for _ in range(40):
            one = tuple(chance.sample(FORTY, 40))
            other = tuple(chance.sample(FORTY, chance.randint(30, 40)))
            # that both are as good as can be: a row kept has of each falling row one at the most
            self.told(one, other, len(kept(one, other)))
            self.assertEqual(len(kept(other, one)), len(kept(one, other)))

    def test_any_signs_whatever_they_are_of(self):
        great = (10**199, "zzzzzzzz", 10**199)
        self.told((great, A), (A, great), 1)
        self.told((great, A), (great, A), 2)

    def test_texts_of_ledgers(self):
        for seed in range(60):
            ledger = any_ledger(seed)
            one, other = signs(ledger), signs(part_of(seed, ledger))
            self.told(one, other, len(kept(one, other)))


ONE = (A, B, C, D)
OTHER = (B, A, E, D, C)
# kept: (A, C), (A, D), (B, C), (B, D); falling: A B and C D
PAPER = ((A, C), ((A, B), (C, D)))


class Checker(unittest.TestCase):
    def test_right_papers(self):
        for row in ((A, C), (A, D), (B, C), (B, D)):
            for rows in (((A, B), (C, D)), ((C, D), (A, B))):
                self.assertEqual(lets_kept(ONE, OTHER, (row, rows)), 2)
        # shuffled so that other falling rows than those of one level do
        one, other = (A, B, C), (B, A, C)
        self.assertEqual(lets_kept(one, other, ((B, C), ((A, B), (C,)))), 2)
        one, other = (A, B, C, D), (C, A, D, B)
        self.assertEqual(lets_kept(one, other, ((A, B), ((A, C), (B, D)))), 2)
        self.assertEqual(lets_kept(one, other, ((C, D), ((B, D), (A, C)))), 2)
        self.assertEqual(lets_kept((), (), ((), ())), 0)
        self.assertEqual(lets_kept((A,), (B,), ((), ())), 0)

    def test_shape(self):
        for thing in ODD:
            if thing != ((), ()):
                self.assertEqual(refusal(ONE, OTHER, thing), ("shape", -1))
        for thing in (list(PAPER), PAPER[:1], PAPER + ((),), ([A, C], PAPER[1]), (PAPER[0], list(PAPER[1])), A):
            self.assertEqual(refusal(ONE, OTHER, thing), ("shape", -1))

    def test_kept(self):
        rows = PAPER[1]
        odd = tuple(thing for thing in ODD if repr(thing) != repr(A))
        for thing in odd + (E, F, [1, "ann", 0], (1, "ann", False), (True, "ann", 0), (1, "ann", 10)):
            self.assertEqual(refusal(ONE, OTHER, ((thing, C), rows)), ("kept", 0))
            self.assertEqual(refusal(ONE, OTHER, ((A, thing), rows)), ("kept", 1))
        for row in ((A, B), (B, A), (C, A), (A, A), (B, A, C)):
            self.assertEqual(refusal(ONE, OTHER, (row, rows)), ("kept", 1))
        for row in ((A, C, D), (A, D, C), (B, C, C)):
            self.assertEqual(refusal(ONE, OTHER, (row, rows)), ("kept", 2))

    def test_row(self):
        for thing in ODD + ([A, B], (A, E), (A, F), (F,), (A, (1, "ann", True)), (B, A), (A, C), (C, A), (A, A), (A, B, C), A):
            self.assertEqual(refusal(ONE, OTHER, ((A, C), (thing, (C, D)))), ("row", 0))
            self.assertEqual(refusal(ONE, OTHER, ((A, C), ((A, B), thing))), ("row", 1))
            self.assertEqual(refusal(ONE, OTHER, ((A, C), ((A, B), (C, D), thing))), ("row", 2))

    def test_twice(self):
        self.assertEqual(refusal(ONE, OTHER, ((A, C), ((A, B), (C, D), (D,)))), ("twice", 2))
        self.assertEqual(refusal(ONE, OTHER, ((A, C), ((B,), (A, B), (C, D)))), ("twice", 1))
        self.assertEqual(refusal(ONE, OTHER, ((A, C), ((A, B), (A, B)))), ("twice", 1))

    def test_lacks(self):
        self.assertEqual(refusal(ONE, OTHER, ((A, C), ((A, B), (C,)))), ("lacks", 3))
        self.assertEqual(refusal(ONE, OTHER, ((A, C), ((B,), (D,)))), ("lacks", 0))
        self.assertEqual(refusal(ONE, OTHER, ((A, C), ((A, B), (D,)))), ("lacks", 2))
        self.assertEqual(refusal((E, F, A), (A, E), ((), ((A,),))), ("lacks", 0))
        self.assertEqual(refusal((F, E, A), (A, E), ((), ((A,),))), ("lacks", 1))
        self.assertEqual(refusal((F, E, A), (A, E), ((), ())), ("lacks", 1))

    def test_many(self):
        self.assertEqual(refusal(ONE, OTHER, ((A,), ((A, B), (C, D)))), ("many", -1))
        self.assertEqual(refusal(ONE, OTHER, ((), ((A, B), (C, D)))), ("many", -1))
        self.assertEqual(refusal(ONE, OTHER, ((A, C), ((A,), (B,), (C, D)))), ("many", -1))

    def test_two_due_at_once(self):
        self.assertEqual(refusal(ONE, OTHER, ([None], (None,))), ("shape", -1))
        self.assertEqual(refusal(ONE, OTHER, ((A, B, None), (None,))), ("kept", 1))
        self.assertEqual(refusal(ONE, OTHER, ((A, C), ((A, B), (A, B), None))), ("row", 2))
        self.assertEqual(refusal(ONE, OTHER, ((A, C), ((A, B), (B,)))), ("twice", 1))
        self.assertEqual(refusal(ONE, OTHER, ((A,), ((B,), (C, D)))), ("lacks", 0))

    def test_papers_of_other_rows(self):
        self.assertEqual(refusal(OTHER, ONE, PAPER), ("row", 0))
        self.assertEqual(lets_kept(OTHER, ONE, ((A, C), ((B, A), (D, C)))), 2)
        self.assertEqual(refusal(ONE, ONE, PAPER), ("row", 0))
        self.assertEqual(refusal(ONE, (), PAPER), ("kept", 0))

    def test_what_is_handed_in_stays(self):
        thing = ((A, [1]), ([A], {}))
        before = repr((ONE, OTHER, thing))
        self.assertEqual(refusal(ONE, OTHER, thing), ("kept", 1))
        self.assertEqual(repr((ONE, OTHER, thing)), before)

    def test_what_is_let_by_is_so(self):
        chance = random.Random(9)
        let = 0
        for _ in range(3000):
            one = tuple(chance.sample(ONE, chance.randint(0, 3)))
            other = tuple(chance.sample(ONE, chance.randint(0, 3)))
            common = [sign for sign in one if sign in other]
            row = tuple(chance.sample(common, chance.randint(0, len(common))))
            rows = {}
            for sign in common:
                rows.setdefault(chance.randint(0, 2), []).append(sign)
            told = refusal(one, other, (row, tuple(tuple(each) for each in rows.values())))
            if told is None:
                let += 1
                self.assertEqual(len(row), rowmodel.longest_kept(one, other))
                self.assertEqual(len(rows), rowmodel.fewest_falling(one, other))
        self.assertGreater(let, 100)


if __name__ == "__main__":
    unittest.main()
