"""Point [40]: HOLD PAPERS as they are told."""

import unittest

from marginwords.holdchecker import lets_held
from marginwords.holding import held
from marginwords.holdpapers import hold_paper
from marginwords.spans import remarks
from tests import model
from tests.ledgers import any_ledger, laid, remark_ledger, rows_on, together

A, B, C, D = [(1, "ann", k) for k in range(4)]
START = rows_on((), "ann", ("put", 0, "abcd"))


class HoldPapers(unittest.TestCase):
    def test_by_hand(self):
        # b moves ab behind d and puts x between them, cyr moves d to the beginning; hh knows of neither
        ledger = together(
            laid(START, "hh", ("hang", 0, 2, "wide", "why")),
            rows_on(START, "b", ("move", 0, 2, 4), ("put", 3, "x")),
            laid(START, "cyr", ("move", 3, 4, 0)),
        )
        m, n, x, d = (2, "b", 0), (2, "b", 1), (3, "b", 0), (2, "cyr", 0)
        order = (d, A, B, C, D, m, x, n)
        entries = ((A, "stretch", ()), (B, "stretch", ()), (C, "out", ()), (D, "out", ()), (x, "row", m))
        self.assertEqual(hold_paper(ledger, (2, "hh")), (order, entries))
        self.assertEqual(lets_held(ledger, (2, "hh"), (order, entries)), (A, B, x))

    def test_of_many_ledgers(self):
        moves = 0
        for seed in range(150):
            for ledger in (remark_ledger(seed), any_ledger(seed)):
                kept = repr(ledger)
                for name in remarks(ledger):
                    paper = hold_paper(ledger, name)
                    moves += len({change[0][1] for change in ledger if change[3][0] == "move"}) > 1
                    self.assertEqual(paper, model.hold_paper(ledger, name))
                    self.assertEqual(lets_held(ledger, name, paper), held(ledger, name))
                    self.assertEqual(hold_paper(ledger, name), paper)
                    self.assertEqual({type(paper), *map(type, paper), *map(type, paper[1])}, {tuple})
                self.assertEqual(repr(ledger), kept)
        self.assertGreater(moves, 30)


if __name__ == "__main__":
    unittest.main()
