"""Points [20], [21], [22]: SLOTS, their ORDER, and the look at it."""

import copy
import itertools
import random
import unittest

from marginwords.errors import NoPaper
from marginwords.laying import slot_rows
from marginwords.order import slot_order
from marginwords.orderchecker import lets_order
from tests import model
from tests.ledgers import any_ledger, laid, part_of, rows_on, together

A, B, C, D = [(1, "ann", k) for k in range(4)]
START = rows_on((), "ann", ("put", 0, "abcd"))
OWN = ((A, (), A), (B, A, B), (C, B, C), (D, C, D))


class Puts(unittest.TestCase):
    def test_no_slots(self):
        self.assertEqual(slot_rows(()), ())
        self.assertEqual(slot_order(()), ())
        taken = rows_on(START, "ann", ("hang", 0, 2, "shut", "why"), ("take", 0, 4), ("back", (3, "ann")))
        self.assertEqual(slot_rows(taken), OWN)
        self.assertEqual(slot_order(taken), (A, B, C, D))

    def test_a_put_at_the_beginning_within_and_at_the_end(self):
        self.assertEqual(slot_rows(START), OWN)
        first = (2, "b", 0)
        for place, parent, order in (
            (0, (), (first, A, B, C, D)),
            (1, A, (A, first, B, C, D)),
            (3, C, (A, B, C, first, D)),
            (4, D, (A, B, C, D, first)),
        ):
            ledger = laid(START, "b", ("put", place, "x"))
            self.assertEqual(slot_rows(ledger), OWN + ((first, parent, first),))
            self.assertEqual(slot_order(ledger), order)

    def test_puts_side_by_side(self):
        ledger = together(laid(START, "b", ("put", 1, "xy")), laid(START, "cyr", ("put", 1, "z")))
        x, y, z = (2, "b", 0), (2, "b", 1), (2, "cyr", 0)
        self.assertEqual(slot_rows(ledger), OWN + ((x, A, x), (y, x, y), (z, A, z)))
        self.assertEqual(slot_order(ledger), (A, z, x, y, B, C, D))

    def test_puts_side_by_side_at_the_beginning(self):
        ledger = together(*[laid((), word, ("put", 0, "xy")) for word in ("b", "a", "c")])
        self.assertEqual(slot_order(ledger), tuple((1, word, k) for word in "cba" for k in (0, 1)))
        self.assertEqual([row[1] for row in slot_rows(ledger)], [(), (1, "a", 0), (), (1, "b", 0), (), (1, "c", 0)])

    def test_a_lesser_name_goes_behind_with_all_beneath_it(self):
        left = rows_on(START, "b", ("put", 1, "x"), ("put", 2, "y"))
        ledger = together(left, laid(START, "cyr", ("put", 1, "z")))
        self.assertEqual(slot_order(ledger), (A, (2, "cyr", 0), (2, "b", 0), (3, "b", 0), B, C, D))

    def test_by_count_ahead_of_branch(self):
        left = rows_on(START, "b", ("put", 4, "x"), ("put", 1, "y"))
        ledger = together(left, laid(START, "cyr", ("put", 1, "z")))
        self.assertEqual(slot_order(ledger), (A, (3, "b", 0), (2, "cyr", 0), B, C, D, (2, "b", 0)))

    def test_the_parent_is_a_sign_that_is_shown(self):
        ledger = rows_on(START, "ann", ("take", 1, 3), ("put", 1, "x"), ("put", 3, "y"), ("take", 0, 1), ("put", 0, "z"))
        self.assertEqual(slot_rows(ledger)[4:], (
            ((3, "ann", 0), A, (3, "ann", 0)), ((4, "ann", 0), D, (4, "ann", 0)), ((6, "ann", 0), (), (6, "ann", 0)),
        ))
        self.assertEqual(slot_order(ledger), ((6, "ann", 0), A, (3, "ann", 0), B, C, D, (4, "ann", 0)))

    def test_a_put_speaks_of_what_is_known_to_it(self):
        taken = laid(START, "b", ("take", 0, 3))
        ledger = together(taken, laid(START, "cyr", ("put", 2, "x")))
        self.assertEqual(slot_rows(ledger)[-1], ((2, "cyr", 0), B, (2, "cyr", 0)))
        again = rows_on(ledger, "dd", ("put", 1, "y"))
        self.assertEqual(slot_rows(again)[-1], ((3, "dd", 0), (2, "cyr", 0), (3, "dd", 0)))


class Moves(unittest.TestCase):
    def test_forward_and_back(self):
        m, n = (2, "b", 0), (2, "b", 1)
        for deed, rows, order in (
            (("move", 0, 2, 4), ((m, D, A), (n, m, B)), (A, B, C, D, m, n)),
            (("move", 0, 2, 3), ((m, C, A), (n, m, B)), (A, B, C, m, n, D)),
            (("move", 2, 4, 0), ((m, (), C), (n, m, D)), (m, n, A, B, C, D)),
            (("move", 2, 4, 1), ((m, A, C), (n, m, D)), (A, m, n, B, C, D)),
            (("move", 3, 4, 2), ((m, B, D),), (A, B, m, C, D)),
        ):
            ledger = laid(START, "b", deed)
            self.assertEqual(slot_rows(ledger), OWN + rows)
            self.assertEqual(slot_order(ledger), order)

    def test_moves_of_what_was_moved(self):
        ledger = rows_on(START, "b", ("move", 0, 2, 4), ("move", 2, 3, 0), ("put", 1, "x"), ("put", 4, "y"))
        m, n, o, x, y = (2, "b", 0), (2, "b", 1), (3, "b", 0), (4, "b", 0), (5, "b", 0)
        # cdab, acdb, axcdb, axcdyb
        self.assertEqual(slot_rows(ledger), OWN + ((m, D, A), (n, m, B), (o, (), A), (x, o, x), (y, D, y)))
        self.assertEqual(slot_order(ledger), (o, x, A, B, C, D, y, m, n))

    def test_moves_on_branches_put_together(self):
        ledger = together(laid(START, "b", ("move", 0, 1, 2)), laid(START, "cyr", ("move", 0, 2, 4)))
        self.assertEqual(slot_rows(ledger), OWN + (
            ((2, "b", 0), B, A), ((2, "cyr", 0), D, A), ((2, "cyr", 1), (2, "cyr", 0), B),
        ))
        self.assertEqual(slot_order(ledger), (A, B, (2, "b", 0), C, D, (2, "cyr", 0), (2, "cyr", 1)))
        # Both moved the first sign: it stands where cyr, of the greater name, laid it: cdab.
        more = laid(ledger, "dd", ("put", 3, "x"))
        self.assertEqual(slot_rows(more)[-1], ((3, "dd", 0), (2, "cyr", 0), (3, "dd", 0)))

    def test_a_parent_is_the_slot_in_what_is_known(self):
        moved = laid(START, "b", ("move", 0, 1, 4))
        ledger = together(moved, laid(START, "cyr", ("put", 1, "x")))
        self.assertEqual(slot_rows(ledger)[-1], ((2, "cyr", 0), A, (2, "cyr", 0)))
        after = together(moved, laid(moved, "cyr", ("put", 4, "x")))
        self.assertEqual(slot_rows(after)[-1], ((3, "cyr", 0), (2, "b", 0), (3, "cyr", 0)))


class ManyLedgers(unittest.TestCase):
    def test_by_the_words_of_the_document(self):
        for seed in range(120):
            ledger = any_ledger(seed)
            kept = repr(ledger)
            self.assertEqual(slot_rows(ledger), model.slot_rows(ledger))
            self.assertEqual(slot_order(ledger), model.order(ledger))
            self.assertIs(lets_order(ledger, slot_order(ledger)), True)
            self.assertEqual(slot_order(ledger), slot_order(ledger))
            self.assertEqual(repr(ledger), kept)
            self.assertIs(type(slot_rows(ledger)), tuple)
            self.assertIs(type(slot_order(ledger)), tuple)

    def test_a_slot_stays_with_its_parent_and_its_sign(self):
        for seed in range(40):
            ledger = any_ledger(seed)
            rows = set(slot_rows(ledger))
            part = part_of(seed, ledger)
            self.assertLessEqual(set(slot_rows(part)), rows)
            inside = set(slot_order(part))
            self.assertEqual(tuple(s for s in slot_order(ledger) if s in inside), slot_order(part))

    def test_as_many_as_the_bounds_allow(self):
        ledger = rows_on((), "ann", *[("put", 0, "abcdefghijkl")] * 6, ("put", 72, "abcdefgh"))
        for k in range(8):
            ledger = laid(ledger, "b" if k & 1 else "cyr", ("move", 0, 10, 80 - k))
        self.assertEqual(len(slot_rows(ledger)), 160)
        self.assertEqual(slot_rows(ledger), model.slot_rows(ledger))
        self.assertEqual(slot_order(ledger), model.order(ledger))
        self.assertIs(lets_order(ledger, slot_order(ledger)), True)


LEDGER = together(laid(START, "b", ("put", 1, "xy")), laid(START, "cyr", ("put", 1, "z")))
X, Y, Z = (2, "b", 0), (2, "b", 1), (2, "cyr", 0)
ORDER = (A, Z, X, Y, B, C, D)


def refusal(ledger, thing):
    try:
        told = lets_order(ledger, thing)
    except NoPaper as wrong:
        return wrong.word, wrong.at
    assert told is True
    return None


class Checker(unittest.TestCase):
    def test_the_order_itself(self):
        self.assertIs(lets_order(LEDGER, ORDER), True)
        self.assertIs(lets_order((), ()), True)

    def test_shape(self):
        for thing in (None, True, 0, "", "order", [], list(ORDER)):
            self.assertEqual(refusal(LEDGER, thing), ("shape", -1))
        self.assertEqual(refusal((), []), ("shape", -1))

    def test_slot(self):
        odd = [
            None, True, 0, "", (), [], [[]], list(Z), (2, "cyr"), (2, "cyr", 0, 0), (2, "cyr", False), (2, "cyr", 1),
            (2, "cyr", -1), (2, "eve", 0), (3, "cyr", 0), (2, ["cyr"], 0), ([2], "cyr", 0), ((2, "cyr"), 0),
            (2, "cyr", [0]), (2, "cyr", None), (10**199, "cyr", 0), ((2, "cyr", 0),), "zz",
        ]
        for entry in odd:
            kept = copy.deepcopy(entry)
            self.assertEqual(refusal(LEDGER, (A, entry) + ORDER[2:]), ("slot", 1), entry)
            self.assertEqual(refusal(LEDGER, ORDER + (entry,)), ("slot", 7), entry)
            self.assertEqual(repr(entry), repr(kept))
        self.assertEqual(refusal(LEDGER, ((True, "ann", 0),) + ORDER[1:]), ("slot", 0))
        self.assertEqual(refusal((), (A,)), ("slot", 0))

    def test_slot_that_stood_ahead(self):
        self.assertEqual(refusal(LEDGER, ORDER + (D,)), ("slot", 7))
        self.assertEqual(refusal(LEDGER, (A, Z, X, Y, A, B, C, D)), ("slot", 4))
        self.assertEqual(refusal(LEDGER, (A, A)), ("slot", 1))

    def test_parent(self):
        self.assertEqual(refusal(LEDGER, (Z,)), ("parent", 0))
        self.assertEqual(refusal(LEDGER, ORDER[1:]), ("parent", 0))
        # X stands ahead of Y, but B has closed it.
        self.assertEqual(refusal(LEDGER, (A, Z, X, B, Y, C, D)), ("parent", 4))
        self.assertEqual(refusal(LEDGER, (A, Z, Y, X, B, C, D)), ("parent", 2))

    def test_the_first_one_beneath_a_parent_is_closed_too(self):
        ledger = together(laid(START, "b", ("put", 1, "x")), laid(START, "cyr", ("put", 1, "zw")))
        z, w = (2, "cyr", 0), (2, "cyr", 1)
        self.assertIs(lets_order(ledger, (A, z, w, X, B, C, D)), True)
        self.assertEqual(refusal(ledger, (A, z, X, w, B, C, D)), ("parent", 3))
        self.assertEqual(refusal(ledger, (A, z, X, B, w, C, D)), ("parent", 4))

    def test_parent_closed_by_one_without(self):
        ledger = together(*[laid((), word, ("put", 0, "ab")) for word in ("b", "c")])
        first, second, third, fourth = [(1, word, k) for word in ("c", "b") for k in (0, 1)]
        self.assertIs(lets_order(ledger, (first, second, third, fourth)), True)
        self.assertEqual(refusal(ledger, (first, third, second, fourth)), ("parent", 2))
        self.assertEqual(refusal(ledger, (third, fourth, first, second)), ("fall", 2))

    def test_fall(self):
        self.assertEqual(refusal(LEDGER, (A, X, Y, Z, B, C, D)), ("fall", 3))
        self.assertEqual(refusal(LEDGER, (A, B, C, D, Z, X, Y)), ("fall", 4))
        self.assertEqual(refusal(LEDGER, (A, Z, B, C, D, X, Y)), ("fall", 5))

    def test_few(self):
        self.assertEqual(refusal(LEDGER, ()), ("few", -1))
        for many in range(len(ORDER)):
            self.assertEqual(refusal(LEDGER, ORDER[:many]), ("few", -1))
        self.assertEqual(refusal(LEDGER, (A, X, Y, B, C, D)), ("few", -1))

    def test_two_due_at_once(self):
        # entry by entry: what is due at a lesser entry goes ahead
        self.assertEqual(refusal(LEDGER, (A, B, Z, None)), ("fall", 2))
        self.assertEqual(refusal(LEDGER, (A, C, None)), ("parent", 1))
        self.assertEqual(refusal(LEDGER, (A, None, C)), ("slot", 1))
        self.assertEqual(refusal(LEDGER, (None,)), ("slot", 0))
        self.assertEqual(refusal(LEDGER, [None]), ("shape", -1))
        # of one entry the one told first
        self.assertEqual(refusal(LEDGER, (A, Z, B, X, Y, B)), ("fall", 3))
        self.assertEqual(refusal(LEDGER, (A, Z, X, Y, B, C, Y)), ("slot", 6))

    def test_slot_and_parent_ahead_of_fall(self):
        ledger = together(rows_on((), "b", ("put", 0, "ab"), ("put", 1, "c")), laid((), "c", ("put", 0, "d")))
        a, b, c, d = (1, "b", 0), (1, "b", 1), (2, "b", 0), (1, "c", 0)
        self.assertIs(lets_order(ledger, (d, a, c, b)), True)
        self.assertEqual(refusal(ledger, (a, b, d)), ("fall", 2))
        self.assertEqual(refusal(ledger, (a, b, c)), ("fall", 2))
        self.assertEqual(refusal(ledger, (a, b, a)), ("slot", 2))
        # c falls beneath a no more, but a is closed by d.
        self.assertEqual(refusal(laid_past(ledger), (d, a, b, (1, "a", 0), c)), ("parent", 4))

    def test_each_row_of_the_slots(self):
        for ledger in (
            together(laid(START[:1], "b", ("put", 1, "x")), laid(START, "cyr", ("move", 0, 1, 3))),
            together(*[laid((), word, ("put", 0, word)) for word in ("a", "bb", "ccc")]),
        ):
            slots = [row[0] for row in slot_rows(ledger)]
            for row in itertools.permutations(slots):
                self.assertEqual(refusal(ledger, row), wanted_refusal(ledger, row))
                self.assertEqual(refusal(ledger, row) is None, row == model.order(ledger))

    def test_any_rows_by_the_words_of_the_document(self):
        chance = random.Random(7)
        words = set()
        for seed in range(400):
            ledger = any_ledger(seed % 50)
            row = list(model.order(ledger))
            for _ in range(chance.randint(0, 3)):
                spoil(chance, row)
            wanted = wanted_refusal(ledger, tuple(row))
            words.add(wanted and wanted[0])
            self.assertEqual(refusal(ledger, tuple(row)), wanted)
        self.assertEqual(words, {None, "slot", "parent", "fall", "few"})


def laid_past(ledger):
    return together(ledger, laid((), "a", ("put", 0, "e")))


def spoil(chance, row):
    """One entry out, twice, otherwise, or elsewhere."""
    if not row:
        return
    k = chance.randrange(len(row))
    what = chance.randrange(4)
    if what == 0:
        del row[k]
    elif what == 1:
        row.insert(chance.randrange(len(row)), row[k])
    elif what == 2:
        row[k] = (row[k][0], row[k][1], row[k][2] + 1)
    else:
        row.insert(chance.randrange(len(row)), row.pop(k))


def wanted_refusal(ledger, row):
    """OPEN are, behind an entry that was let by, that entry and all above it."""
    parents = {slot: parent for slot, parent, _ in model.slot_rows(ledger)}
    for k, entry in enumerate(row):
        if entry not in parents or entry in row[:k]:
            return "slot", k
        above = [row[k - 1]] if k else []
        while above and parents[above[-1]] != ():
            above.append(parents[above[-1]])
        if parents[entry] != () and parents[entry] not in above:
            return "parent", k
        if any(parents[each] == parents[entry] and each < entry for each in row[:k]):
            return "fall", k
    return ("few", -1) if len(row) < len(parents) else None


if __name__ == "__main__":
    unittest.main()
