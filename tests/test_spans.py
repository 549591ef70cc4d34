"""Points [35], [36], with [5]: REMARKS and their SPANS; NoName of all that is told of them."""

import unittest

from marginwords.holdchecker import lets_held
from marginwords.holding import held, hold_word, within
from marginwords.laying import slot_rows
from marginwords.spans import in_span, remarks, span
from tests import model
from tests.ledgers import any_ledger, laid, remark_ledger, rows_on, together
from tests.things import name_refusal

A, B, C, D = [(1, "ann", k) for k in range(4)]
START = rows_on((), "ann", ("put", 0, "abcd"))


def hung(ledger, i, j, edge):
    """The LEDGER with a REMARK of the branch hh that knows all of it, and the NAME of this."""
    whole = laid(ledger, "hh", ("hang", i, j, edge, "why"))
    return whole, whole[-1][0]


def spanned(ledger, remark):
    """The SLOTS in the SPAN."""
    return {slot for slot, _, _ in slot_rows(ledger) if in_span(ledger, remark, slot)}


class Remarks(unittest.TestCase):
    def test_none_some_and_unsaid_ones(self):
        self.assertEqual(remarks(()), ())
        self.assertEqual(remarks(START), ())
        ledger = rows_on(START, "ann", ("hang", 0, 1, "shut", "a"), ("take", 0, 1), ("hang", 0, 3, "wide", "b"))
        self.assertEqual(remarks(ledger), ((2, "ann"), (4, "ann")))
        ledger = rows_on(ledger, "ann", ("answer", (2, "ann"), "no"), ("unsay", (2, "ann")))
        self.assertEqual(remarks(ledger), ((2, "ann"), (4, "ann")))
        both = together(ledger, laid(START, "b", ("hang", 0, 4, "wide", "c")))
        self.assertEqual(remarks(both), ((2, "ann"), (2, "b"), (4, "ann")))
        self.assertIs(type(remarks(both)), tuple)


class Spans(unittest.TestCase):
    def test_shut_ones(self):
        for i, j, first, last, inside in (
            (0, 4, A, D, {A, B, C, D}), (0, 1, A, A, {A}), (3, 4, D, D, {D}), (1, 3, B, C, {B, C}),
        ):
            ledger, name = hung(START, i, j, "shut")
            self.assertEqual(span(ledger, name), ("shut", first, last))
            self.assertEqual(spanned(ledger, name), inside)

    def test_wide_ones(self):
        for i, j, first, last, inside in (
            (0, 4, (), (), {A, B, C, D}), (0, 2, (), C, {A, B}), (2, 4, B, (), {C, D}), (1, 3, A, D, {B, C}),
            (1, 2, A, C, {B}),
        ):
            ledger, name = hung(START, i, j, "wide")
            self.assertEqual(span(ledger, name), ("wide", first, last))
            self.assertEqual(spanned(ledger, name), inside)

    def test_what_is_put_later(self):
        # at each place, whether it lies in the span of bc, shut and wide
        for edge, wanted in (
            ("shut", [False, False, True, False, False]), ("wide", [False, True, True, True, False]),
        ):
            ledger, name = hung(START, 1, 3, edge)
            for place in range(5):
                for whole in (
                    together(ledger, laid(START, "b", ("put", place, "xy"))), laid(ledger, "b", ("put", place, "xy")),
                ):
                    (slot,) = [change[0] for change in whole if change[0][1] == "b"]
                    for k in (0, 1):
                        self.assertIs(in_span(whole, name, (*slot, k)), wanted[place])

    def test_what_is_put_later_where_there_is_no_bound(self):
        ledger, name = hung(START, 0, 4, "wide")
        for place in (0, 4):
            whole = laid(ledger, "b", ("put", place, "x"))
            self.assertIs(in_span(whole, name, (3, "b", 0)), True)
        ledger, name = hung(START, 0, 4, "shut")
        for place in (0, 4):
            whole = laid(ledger, "b", ("put", place, "x"))
            self.assertIs(in_span(whole, name, (3, "b", 0)), False)

    def test_bounds_are_the_slots_in_what_is_known(self):
        moved = laid(START, "ann", ("move", 0, 1, 4))
        m = (2, "ann", 0)
        ledger, name = hung(moved, 2, 4, "shut")
        self.assertEqual(span(ledger, name), ("shut", D, m))
        self.assertEqual(spanned(ledger, name), {D, m})
        later = together(ledger, laid(START, "b", ("move", 3, 4, 0)))
        self.assertEqual(span(later, name), ("shut", D, m))
        self.assertIs(in_span(later, name, (2, "b", 0)), False)
        ledger, name = hung(moved, 0, 2, "wide")
        self.assertEqual(span(ledger, name), ("wide", (), D))
        self.assertEqual(spanned(ledger, name), {A, B, C})

    def test_bounds_are_signs_that_are_shown(self):
        taken = laid(START, "ann", ("take", 1, 3))
        ledger, name = hung(taken, 0, 1, "wide")
        self.assertEqual(span(ledger, name), ("wide", (), D))
        self.assertEqual(spanned(ledger, name), {A, B, C})
        ledger, name = hung(taken, 0, 2, "shut")
        self.assertEqual(span(ledger, name), ("shut", A, D))
        self.assertEqual(spanned(ledger, name), {A, B, C, D})
        ledger, name = hung(taken, 0, 1, "shut")
        self.assertEqual(spanned(ledger, name), {A})

    def test_what_another_took_is_in_it_still(self):
        ledger, name = hung(START, 1, 3, "shut")
        whole = together(ledger, laid(START, "b", ("take", 0, 4)))
        self.assertEqual(span(whole, name), ("shut", B, C))
        self.assertEqual(spanned(whole, name), {B, C})

    def test_by_the_words_of_the_document(self):
        edges = set()
        for seed in range(100):
            for ledger in (any_ledger(seed), remark_ledger(seed)):
                kept = repr(ledger)
                self.assertEqual(remarks(ledger), model.remarks(ledger))
                for name in remarks(ledger):
                    told = span(ledger, name)
                    edges.add((told[0], told[1] == (), told[2] == ()))
                    self.assertEqual(told, model.span(ledger, name))
                    self.assertEqual(told, span(ledger, name))
                    for slot, _, _ in slot_rows(ledger):
                        self.assertIs(in_span(ledger, name, slot), model.in_span(ledger, name, slot))
                self.assertEqual(repr(ledger), kept)
        wide = {("wide", left, right) for left in (True, False) for right in (True, False)}
        self.assertEqual(edges, wide | {("shut", False, False)})


class NoNames(unittest.TestCase):
    def test_each_function(self):
        ledger = rows_on(START, "ann", ("hang", 0, 1, "shut", "a"), ("answer", (2, "ann"), "no"), ("take", 0, 1))
        for name in ((1, "ann"), (3, "ann"), (4, "ann"), (5, "ann"), (2, "b"), (10**199, "ann"), (9, "zz")):
            for ask, more in ((span, ()), (in_span, (A,)), (within, (A,)), (hold_word, (A,)), (held, ())):
                self.assertEqual(name_refusal(ask, ledger, name, *more), (name,), ask)
                self.assertEqual(name_refusal(ask, (), name, *more), (name,), ask)
            for thing in (None, (), ((), ())):
                self.assertEqual(name_refusal(lets_held, ledger, name, thing), (name,))
        for ask, more in ((span, ()), (in_span, (A,)), (within, (A,)), (hold_word, (A,)), (held, ())):
            self.assertIsNone(name_refusal(ask, ledger, (2, "ann"), *more))

    def test_the_very_name_is_kept(self):
        name = (7, "b")
        for ask in (span, held):
            self.assertIs(name_refusal(ask, START, name)[0], name)


if __name__ == "__main__":
    unittest.main()
