"""Point [26], with [3], [4], [5]: whether any thing is a LEDGER."""

import copy
import random
import unittest

from marginwords.ledgers import lets_ledger
from tests import model
from tests.ledgers import any_ledger, laid, part_of, remark_ledger, rows_on, together
from tests.things import ODD, paper_refusal

BIG = 10**199
A1 = ((1, "ann"), "x", (), ("put", 0, "abc"))
B2 = ((2, "b"), "y", ((1, "ann"),), ("put", 3, "d"))
C2 = ((2, "cyr"), "z", ((1, "ann"),), ("take", 0, 1))
J3 = ((3, "b"), "y", ((2, "b"), (2, "cyr")), ("join",))
LEDGER = (A1, B2, C2, J3)


def refusal(thing):
    return paper_refusal(lets_ledger, thing)


def otherwise(change, name=None, hand=None, base=None, deed=None):
    """The CHANGE with some of it otherwise."""
    other = (name, hand, base, deed)
    return tuple(old if new is None else new for old, new in zip(change, other))


class Right(unittest.TestCase):
    def test_by_hand(self):
        for ledger in ((), (A1,), (A1, B2), (A1, C2), (A1, B2, C2), LEDGER):
            self.assertIs(lets_ledger(ledger), True)

    def test_each_deed(self):
        hung = rows_on((A1,), "ann", ("hang", 0, 2, "wide", "why"))
        name = (2, "ann")
        for deed in (("answer", name, "no"), ("settle", name), ("unsay", name), ("move", 0, 1, 3), ("take", 0, 3)):
            self.assertIs(lets_ledger(laid(hung, "ann", deed)), True)
        self.assertIs(lets_ledger(rows_on(hung, "ann", ("settle", name), ("open", name))), True)
        self.assertIs(lets_ledger(rows_on(hung, "ann", ("take", 0, 3), ("back", (3, "ann")))), True)

    def test_several_that_know_nothing_of_one_another(self):
        self.assertIs(lets_ledger(together(*[laid((), word, ("put", 0, word)) for word in "abcdef"])), True)

    def test_more_than_the_bounds(self):
        ledger = rows_on((), "ann", *[("put", 0, "abcdefghijkl")] * 30)
        self.assertIs(lets_ledger(ledger), True)
        self.assertEqual(refusal(ledger + (A1,)), ("rise", 30))


class Refused(unittest.TestCase):
    def test_shape(self):
        for thing in (None, True, 0, 1, "", "ledger", [], list(LEDGER), BIG):
            self.assertEqual(refusal(thing), ("shape", -1))

    def test_change(self):
        for odd in ODD:
            kept = repr(odd)
            self.assertEqual(refusal((odd,)), ("change", 0))
            self.assertEqual(refusal((A1, B2, odd, J3)), ("change", 2))
            self.assertEqual(refusal(LEDGER + (odd,)), ("change", 4))
            self.assertEqual(repr(odd), kept)
            for k in range(4):
                if k == 1 and odd in ("a", "shape") or k == 2 and odd == ():
                    continue
                entry = B2[:k] + (odd,) + B2[k + 1 :]
                if k == 0 and repr(odd) == repr((1, "ann")) or k == 3 and repr(odd) == repr(("put", 0, "a")):
                    continue
                self.assertEqual(refusal((A1, entry)), ("change", 1), entry)
        for entry in (list(B2), B2[:3], B2 + (None,), (list(B2[0]), *B2[1:]), B2[:2] + ([(1, "ann")], B2[3])):
            self.assertEqual(refusal((A1, entry)), ("change", 1))

    def test_a_truth_is_no_number(self):
        self.assertEqual(refusal((otherwise(A1, name=(True, "ann")),)), ("change", 0))
        self.assertEqual(refusal((otherwise(A1, deed=("put", False, "abc")),)), ("change", 0))
        self.assertEqual(refusal((A1, otherwise(B2, base=((True, "ann"),)))), ("change", 1))
        self.assertEqual(refusal((A1, otherwise(B2, deed=("take", 0, True)))), ("change", 1))
        self.assertEqual(refusal((A1, otherwise(B2, deed=("take", False, 1)))), ("change", 1))

    def test_rise(self):
        self.assertEqual(refusal((A1, A1)), ("rise", 1))
        self.assertEqual(refusal((A1, C2, B2)), ("rise", 2))
        self.assertEqual(refusal((A1, B2, B2)), ("rise", 2))
        self.assertEqual(refusal((A1, otherwise(A1, name=(1, "a")))), ("rise", 1))
        self.assertEqual(refusal((B2, A1)), ("base", 0))

    def test_base(self):
        for base in (
            ((2, "cyr"), (2, "b")), ((2, "b"), (2, "b")), ((2, "b"), (2, "b"), (2, "cyr")), ((1, "ann"), (2, "b")),
            ((1, "ann"), (2, "b"), (2, "cyr")), ((2, "b"), (2, "dd")), ((1, "b"),), ((3, "b"),), ((4, "ann"),),
            ((BIG, "ann"),), ((2, "b"), (2, "cyr"), (3, "b")),
        ):
            self.assertEqual(refusal((A1, B2, C2, otherwise(J3, base=base))), ("base", 3), base)
        self.assertEqual(refusal((otherwise(A1, base=((1, "ann"),)),)), ("base", 0))
        self.assertEqual(refusal((B2,)), ("base", 0))
        # one is known to another one by a third
        row = rows_on((A1,), "b", ("put", 0, "x"), ("put", 0, "y"))
        far = ((4, "cyr"), "x", ((1, "ann"), (3, "b")), ("put", 0, "z"))
        self.assertEqual(refusal(row + (far,)), ("base", 3))
        self.assertIsNone(refusal(row + (otherwise(far, base=((3, "b"),)),)))

    def test_count(self):
        for count in (1, 3, 4, BIG):
            entry = otherwise(B2, name=(count, "zz"))
            self.assertEqual(refusal((A1, entry)), ("count", 1), count)
        for count in (2, 3, BIG):
            self.assertEqual(refusal((otherwise(A1, name=(count, "ann")),)), ("count", 0))
        for count in (2, 4):
            self.assertEqual(refusal((A1, B2, C2, otherwise(J3, name=(count, "zz")))), ("count", 3))
        self.assertEqual(refusal((A1, B2, C2, otherwise(J3, name=(3, "zz")))), None)

    def test_branch(self):
        for entry in (otherwise(J3, base=((2, "cyr"),), deed=("put", 0, "x")),):
            self.assertEqual(refusal((A1, B2, C2, entry)), ("branch", 3))
        self.assertIsNone(refusal((A1, B2, C2, otherwise(J3, base=((2, "b"),), deed=("put", 0, "x")))))
        lone = ((1, "b"), "x", (), ("put", 0, "q"))
        self.assertEqual(refusal((A1, lone, B2)), ("branch", 2))
        self.assertIsNone(refusal((A1, lone, otherwise(B2, base=((1, "ann"), (1, "b"))))))

    def test_deed(self):
        for deed in (
            ("put", 4, "d"), ("put", -1, "d"), ("take", 0, 4), ("take", 2, 2), ("move", 0, 2, 1), ("back", (1, "ann")),
            ("hang", 0, 4, "shut", "so"), ("settle", (1, "ann")), ("unsay", (1, "ann")), ("join",), ("put", BIG, "d"),
        ):
            self.assertEqual(refusal((A1, otherwise(B2, deed=deed))), ("deed", 1), deed)
        self.assertEqual(refusal((otherwise(A1, deed=("put", 1, "abc")),)), ("deed", 0))
        self.assertEqual(refusal((otherwise(A1, deed=("join",)),)), ("deed", 0))

    def test_the_deed_is_held_against_what_is_known_alone(self):
        # cyr knows nothing of the d that b put, nor of b's take
        self.assertEqual(refusal((A1, B2, otherwise(C2, deed=("take", 0, 4)))), ("deed", 2))
        taken = otherwise(B2, deed=("take", 0, 3))
        self.assertIsNone(refusal((A1, taken, otherwise(C2, deed=("take", 0, 3)))))
        self.assertEqual(refusal((A1, taken, otherwise(C2, deed=("back", (2, "b"))))), ("deed", 2))
        self.assertEqual(refusal((A1, B2, otherwise(C2, deed=("join",)))), ("deed", 2))

    def test_the_hand(self):
        hung = rows_on((A1,), "ann", ("hang", 0, 2, "wide", "why"), hand="bob")
        self.assertIsNone(refusal(laid(hung, "ann", ("unsay", (2, "ann")), "bob")))
        self.assertEqual(refusal(laid(hung, "ann", ("unsay", (2, "ann")), "ann")), ("deed", 2))

    def test_two_due_at_one_entry(self):
        for entry, told in (
            (((1, "ann"), "x", ((2, "b"), (1, "ann")), ("join",)), "rise"),
            (((1, "b"), "x", ((2, "b"), (1, "ann")), ("join",)), "base"),
            (((1, "b"), "x", (), ("join",)), "deed"),
            (((2, "ann"), "x", (), ("join",)), "count"),
            (((3, "ann"), "x", (), ("put", 0, "x")), "count"),
            (((2, "b"), "x", ((1, "ann"),), ("take", 0, 9)), "deed"),
        ):
            self.assertEqual(refusal((A1, entry)), (told, 1), entry)
        lone = ((1, "b"), "x", (), ("put", 0, "q"))
        self.assertEqual(refusal((A1, lone, otherwise(B2, deed=("put", 9, "d")))), ("branch", 2))
        self.assertEqual(refusal((A1, lone, otherwise(B2, name=(3, "b")))), ("count", 2))
        self.assertEqual(refusal((A1, otherwise(A1, hand="x y"))), ("change", 1))

    def test_two_due_at_two_entries(self):
        self.assertEqual(refusal((A1, otherwise(B2, deed=("put", 9, "d")), None)), ("deed", 1))
        self.assertEqual(refusal((A1, None, A1)), ("change", 1))
        self.assertEqual(refusal((otherwise(A1, deed=("join",)), B2, B2)), ("deed", 0))
        self.assertEqual(refusal([None]), ("shape", -1))


def spoil(chance, ledger):
    """One CHANGE out, otherwise, twice or elsewhere; all are CHANGES by kind still."""
    row = list(ledger)
    k = chance.randrange(len(row))
    name, hand, base, deed = row[k]
    names = [change[0] for change in row]
    what = chance.randrange(8)
    if what == 0:
        del row[k]
    elif what == 1:
        row.insert(chance.randrange(len(row)), row.pop(k))
    elif what == 2:
        row[k] = ((max(1, name[0] + chance.choice((-1, 1))), name[1]), hand, base, deed)
    elif what == 3:
        row[k] = (name, hand, tuple(chance.sample(names, min(len(names), chance.randint(0, 2)))), deed)
    elif what == 4:
        row[k] = (name, hand, tuple(sorted({*base, chance.choice(names)})), deed)
    elif what == 5:
        row[k] = (name, hand, base, chance.choice(row)[3])
    elif what == 6:
        row[k] = ((name[0], chance.choice(names)[1]), hand, base, deed)
    else:
        row[k] = (name, chance.choice(("ann", "bob")), base, deed)
    return tuple(row)


class ManyThings(unittest.TestCase):
    def test_right_ones(self):
        for seed in range(80):
            for ledger in (any_ledger(seed), remark_ledger(seed)):
                kept = copy.deepcopy(ledger)
                self.assertIs(lets_ledger(ledger), True)
                self.assertIs(lets_ledger(part_of(seed, ledger)), True)
                self.assertIs(lets_ledger(ledger), True)
                self.assertEqual(ledger, kept)

    def test_spoilt_ones_by_the_words_of_the_document(self):
        chance = random.Random(11)
        words = set()
        for seed in range(900):
            thing = remark_ledger(seed % 90)
            for _ in range(chance.randint(1, 2)):
                thing = spoil(chance, thing)
            wanted = model.ledger_refusal(thing)
            words.add(wanted and wanted[0])
            self.assertEqual(refusal(thing), wanted, thing)
        self.assertEqual(words, {None, "rise", "base", "count", "branch", "deed"})


if __name__ == "__main__":
    unittest.main()
