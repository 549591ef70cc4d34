"""Points [13], [14]: what knows what."""

import unittest

from marginwords.errors import NoName
from marginwords.knowing import branch_names, change_of, known, knows, tops, upto, without
from tests import model
from tests.ledgers import any_ledger, laid, rows_on, together

# ann puts; b and cyr go on from there without knowing of one another; ann takes b in.
A1 = ((1, "ann"), "x", (), ("put", 0, "abc"))
B2 = ((2, "b"), "y", ((1, "ann"),), ("put", 3, "d"))
B3 = ((3, "b"), "y", ((2, "b"),), ("take", 0, 1))
C2 = ((2, "cyr"), "z", ((1, "ann"),), ("move", 0, 1, 3))
A2 = ((2, "ann"), "x", ((1, "ann"),), ("put", 0, "e"))
A4 = ((4, "ann"), "x", ((2, "ann"), (3, "b")), ("join",))
E1 = ((1, "eve"), "e", (), ("put", 0, "q"))
LEDGER = (A1, E1, A2, B2, C2, B3, A4)


class OneLedger(unittest.TestCase):
    def test_change_of(self):
        for change in LEDGER:
            self.assertEqual(change_of(LEDGER, change[0]), change)

    def test_known(self):
        self.assertEqual(known(LEDGER, (1, "ann")), ())
        self.assertEqual(known(LEDGER, (1, "eve")), ())
        self.assertEqual(known(LEDGER, (2, "cyr")), (A1,))
        self.assertEqual(known(LEDGER, (3, "b")), (A1, B2))
        self.assertEqual(known(LEDGER, (4, "ann")), (A1, A2, B2, B3))

    def test_no_name(self):
        for ledger, name in ((LEDGER, (3, "ann")), (LEDGER, (1, "b")), (LEDGER, (9, "zz")), ((), (1, "ann"))):
            for ask in (change_of, known):
                with self.assertRaises(NoName) as caught:
                    ask(ledger, name)
                self.assertEqual(caught.exception.name, name)

    def test_a_truth_is_no_count(self):
        for ask in (change_of, known):
            with self.assertRaises(NoName) as caught:
                ask(LEDGER, (True, "ann"))
            self.assertIs(caught.exception.name[0], True)

    def test_knows(self):
        self.assertIs(knows(LEDGER, (4, "ann"), (2, "b")), True)
        self.assertIs(knows(LEDGER, (4, "ann"), (1, "ann")), True)
        self.assertIs(knows(LEDGER, (2, "b"), (4, "ann")), False)
        self.assertIs(knows(LEDGER, (4, "ann"), (2, "cyr")), False)
        self.assertIs(knows(LEDGER, (4, "ann"), (1, "eve")), False)
        self.assertIs(knows(LEDGER, (2, "ann"), (2, "b")), False)
        for change in LEDGER:
            self.assertIs(knows(LEDGER, change[0], change[0]), False)

    def test_knows_refuses_the_one_ahead_of_the_other(self):
        for one, other, wrong in (
            ((9, "b"), (4, "ann"), (9, "b")),
            ((4, "ann"), (9, "b"), (9, "b")),
            ((9, "b"), (1, "cyr"), (9, "b")),
            ((1, "cyr"), (9, "b"), (1, "cyr")),
        ):
            with self.assertRaises(NoName) as caught:
                knows(LEDGER, one, other)
            self.assertEqual(caught.exception.name, wrong)

    def test_tops(self):
        self.assertEqual(tops(LEDGER), ((1, "eve"), (2, "cyr"), (4, "ann")))
        self.assertEqual(tops((A1,)), ((1, "ann"),))
        self.assertEqual(tops(()), ())

    def test_branch_names(self):
        self.assertEqual(branch_names(LEDGER, "ann"), ((1, "ann"), (2, "ann"), (4, "ann")))
        self.assertEqual(branch_names(LEDGER, "b"), ((2, "b"), (3, "b")))
        self.assertEqual(branch_names(LEDGER, "bb"), ())
        self.assertEqual(branch_names((), "ann"), ())

    def test_upto(self):
        self.assertEqual(upto(LEDGER, (2, "b")), (A1, E1, A2, B2))
        self.assertEqual(upto(LEDGER, (2, "bb")), (A1, E1, A2, B2))
        self.assertEqual(upto(LEDGER, (2, "a")), (A1, E1))
        self.assertEqual(upto(LEDGER, (4, "ann")), LEDGER)
        self.assertEqual(upto(LEDGER, (10**199, "z")), LEDGER)
        self.assertEqual(upto(LEDGER, (1, "a")), ())
        self.assertEqual(upto((), (1, "a")), ())

    def test_without(self):
        self.assertEqual(without(LEDGER, ()), LEDGER)
        self.assertEqual(without(LEDGER, ((2, "b"),)), (A1, E1, A2, C2))
        self.assertEqual(without(LEDGER, ((1, "ann"),)), (E1,))
        self.assertEqual(without(LEDGER, ((4, "ann"), (1, "eve"), (4, "ann"))), (A1, A2, B2, C2, B3))
        self.assertEqual(without(LEDGER, ((7, "ann"), (1, "b"))), LEDGER)
        self.assertEqual(without(LEDGER, ((7, "ann"), (2, "cyr"))), (A1, E1, A2, B2, B3, A4))
        self.assertEqual(without((), ((1, "ann"),)), ())

    def test_without_forty(self):
        forty = tuple((k, word) for k in range(10, 0, -1) for word in ("zz", "b", "cyr", "zz"))
        self.assertEqual(without(LEDGER, forty), (A1, E1, A2))
        far = tuple((k, "far") for k in range(1, 41))
        self.assertEqual(without(LEDGER, far), LEDGER)

    def test_hands_and_deeds_are_not_looked_at(self):
        other = tuple((name, "other", base, ("put", 0, "z")) for name, _, base, _ in LEDGER)
        self.assertEqual(tops(other), tops(LEDGER))
        self.assertEqual([c[0] for c in known(other, (4, "ann"))], [c[0] for c in known(LEDGER, (4, "ann"))])
        self.assertEqual([c[0] for c in without(other, ((2, "b"),))], [(1, "ann"), (1, "eve"), (2, "ann"), (2, "cyr")])


class ManyLedgers(unittest.TestCase):
    def test_by_the_words_of_the_document(self):
        for seed in range(60):
            ledger = any_ledger(seed)
            names = [change[0] for change in ledger]
            self.assertEqual(tops(ledger), model.tops(ledger))
            for name in names:
                elders = model.elders(ledger, name)
                self.assertEqual(known(ledger, name), model.known(ledger, name))
                self.assertEqual([knows(ledger, name, other) for other in names], [other in elders for other in names])
                left = tuple(c for c in ledger if c[0] != name and name not in model.elders(ledger, c[0]))
                self.assertEqual(without(ledger, (name, (99, "zz"), name)), left)
            self.assertEqual(known(ledger, names[-1]), known(ledger, names[-1]))

    def test_what_is_told_are_tuples(self):
        for told in (known(LEDGER, (3, "b")), tops(LEDGER), branch_names(LEDGER, "b"), upto(LEDGER, (2, "b")),
                     without(LEDGER, ((2, "b"),)), change_of(LEDGER, (2, "b"))):
            self.assertIs(type(told), tuple)

    def test_a_long_row_of_changes(self):
        ledger = rows_on((), "a", *[("put", 0, "a")] * 24)
        self.assertEqual(tops(ledger), ((24, "a"),))
        self.assertEqual(len(known(ledger, (24, "a"))), 23)
        side = together(laid((), "b", ("put", 0, "b")), ledger)
        self.assertEqual(tops(side), ((1, "b"), (24, "a")))


if __name__ == "__main__":
    unittest.main()
