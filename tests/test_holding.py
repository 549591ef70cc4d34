"""Points [37], [38], [39], with [5]: what a REMARK holds."""

import unittest

from marginwords.holding import held, hold_word, within
from marginwords.knowing import upto
from marginwords.laying import slot_rows
from marginwords.showing import all_signs
from marginwords.spans import remarks
from marginwords.texts import text
from tests import model
from tests.ledgers import any_ledger, laid, part_of, remark_ledger, rows_on, together

A, B, C, D = [(1, "ann", k) for k in range(4)]
START = rows_on((), "ann", ("put", 0, "abcd"))


def hung(ledger, i, j, edge="shut"):
    """The LEDGER with a REMARK of the branch hh that knows all of it, and the NAME of this."""
    whole = laid(ledger, "hh", ("hang", i, j, edge, "why"))
    return whole, whole[-1][0]


class Known(unittest.TestCase):
    def test_stretch_and_out(self):
        for edge in ("shut", "wide"):
            ledger, name = hung(START, 1, 3, edge)
            self.assertEqual([hold_word(ledger, name, s) for s in (A, B, C, D)], ["out", "stretch", "stretch", "out"])
            self.assertEqual(held(ledger, name), (B, C))

    def test_hidden_in_the_span_and_out_of_it(self):
        taken = rows_on(START, "ann", ("put", 4, "ef"), ("take", 1, 2), ("take", 4, 5))
        self.assertEqual(text(taken), "acde")
        e, f = (2, "ann", 0), (2, "ann", 1)
        ledger, name = hung(taken, 0, 2)
        words = [hold_word(ledger, name, sign) for sign in (A, B, C, D, e, f)]
        self.assertEqual(words, ["stretch", "span", "stretch", "out", "out", "out"])
        self.assertEqual(held(ledger, name), (A, B, C))
        wide, name = hung(taken, 3, 4, "wide")
        words = [hold_word(wide, name, sign) for sign in (A, B, C, D, e, f)]
        self.assertEqual(words, ["out", "out", "out", "out", "stretch", "span"])

    def test_a_hidden_one_by_the_slot_in_which_it_stands(self):
        # b is moved behind d, then taken; its old slot lies in the span of ac, where it stands no more
        ledger = rows_on(START, "ann", ("move", 1, 2, 4), ("take", 3, 4))
        whole, name = hung(ledger, 0, 2)
        self.assertEqual(hold_word(whole, name, B), "out")
        whole, name = hung(ledger, 2, 3, "wide")
        self.assertEqual(hold_word(whole, name, B), "span")

    def test_a_sign_that_is_shown_elsewhere_though_its_old_slot_lies_in_the_span(self):
        whole, name = hung(laid(START, "ann", ("move", 1, 2, 4)), 0, 2)
        self.assertEqual([hold_word(whole, name, sign) for sign in (A, B, C, D)], ["stretch", "out", "stretch", "out"])

    def test_what_comes_later_turns_nothing(self):
        ledger, name = hung(START, 1, 3)
        for deed in (("take", 0, 4), ("move", 1, 3, 0), ("move", 0, 1, 2), ("put", 2, "x")):
            for whole in (laid(ledger, "b", deed), together(ledger, laid(START, "b", deed))):
                words = [hold_word(whole, name, sign) for sign in (A, B, C, D)]
                self.assertEqual(words, ["out", "stretch", "stretch", "out"])


class PutLater(unittest.TestCase):
    def test_within_and_at_the_ends(self):
        for edge, wanted in (
            ("shut", ["out", "out", "span", "out", "out"]), ("wide", ["out", "span", "span", "span", "out"]),
        ):
            ledger, name = hung(START, 1, 3, edge)
            for place in range(5):
                whole = laid(ledger, "b", ("put", place, "xy"))
                self.assertEqual([hold_word(whole, name, (3, "b", k)) for k in (0, 1)], [wanted[place]] * 2)
                side = together(ledger, laid(START, "b", ("put", place, "xy")))
                self.assertEqual([hold_word(side, name, (2, "b", k)) for k in (0, 1)], [wanted[place]] * 2)
                self.assertEqual(within(side, name, (2, "b", 0)), ())

    def test_at_ends_without_a_bound(self):
        ledger, name = hung(START, 0, 4, "wide")
        whole = rows_on(ledger, "b", ("put", 0, "x"), ("put", 5, "y"))
        self.assertEqual(held(whole, name), all_signs(whole))

    def test_a_sign_that_is_hidden(self):
        ledger, name = hung(START, 1, 3)
        whole = rows_on(ledger, "b", ("put", 2, "x"), ("take", 0, 5))
        self.assertEqual(hold_word(whole, name, (3, "b", 0)), "span")
        self.assertEqual(held(whole, name), (B, C, (3, "b", 0)))


class Rows(unittest.TestCase):
    """b moves ab behind d, so the text is cdab; m and n are the SLOTS that it lays."""

    moved = laid(START, "b", ("move", 0, 2, 4))
    m, n = (2, "b", 0), (2, "b", 1)

    def asked(self, ledger, name, slot, row, word):
        self.assertEqual(within(ledger, name, slot), row)
        self.assertEqual(hold_word(ledger, name, slot), word)

    def test_one_moves_another_hangs_a_third_puts(self):
        put = laid(self.moved, "cyr", ("put", 3, "xy"))
        self.assertEqual(text(put), "cdaxyb")
        for i, j, word in ((0, 2, "row"), (0, 4, "row"), (0, 1, "out"), (1, 2, "out"), (1, 3, "out"), (2, 4, "out")):
            for edge in ("shut", "wide"):
                ledger, name = hung(START, i, j, edge)
                whole = together(ledger, put)
                for k in (0, 1):
                    self.asked(whole, name, (3, "cyr", k), self.m, word)

    def test_the_slots_of_the_move_itself(self):
        ledger, name = hung(START, 0, 2)
        whole = together(ledger, self.moved)
        for slot in (A, B, C, D, self.m, self.n):
            self.assertEqual(within(whole, name, slot), ())

    def test_at_the_ends_of_the_row(self):
        # ahead of a, behind d: the first slot of the row is behind d, too, of a lesser name
        ledger, name = hung(START, 0, 2)
        for place, parent in ((2, D), (4, self.n)):
            put = laid(self.moved, "cyr", ("put", place, "x"))
            whole = together(ledger, put)
            self.assertEqual([row[1] for row in slot_rows(whole) if row[0] == (3, "cyr", 0)], [parent])
            self.asked(whole, name, (3, "cyr", 0), (), "out")
            wide, name = hung(START, 2, 4, "wide")
            self.asked(together(wide, put), name, (3, "cyr", 0), (), "span")

    def test_in_a_put_within_the_row(self):
        ledger, name = hung(START, 0, 2)
        whole = together(ledger, rows_on(self.moved, "cyr", ("put", 3, "xy"), ("put", 4, "z"), ("put", 6, "w")))
        self.assertEqual(text(whole), "cdaxzywb")
        for slot in ((3, "cyr", 0), (3, "cyr", 1), (4, "cyr", 0), (5, "cyr", 0)):
            self.asked(whole, name, slot, self.m, "row")

    def test_a_move_that_is_known_to_the_remark(self):
        ledger, name = hung(self.moved, 2, 4)
        whole = laid(ledger, "cyr", ("put", 3, "x"))
        self.asked(whole, name, (4, "cyr", 0), (), "span")
        ledger, name = hung(self.moved, 0, 3)
        whole = laid(ledger, "cyr", ("put", 3, "x"))
        self.asked(whole, name, (4, "cyr", 0), (), "out")

    def test_a_move_that_knows_the_remark(self):
        ledger, name = hung(START, 0, 2)
        whole = rows_on(ledger, "b", ("move", 0, 2, 4), ("put", 3, "x"))
        self.asked(whole, name, (4, "b", 0), (3, "b", 0), "row")

    def test_a_row_of_one(self):
        ledger, name = hung(START, 0, 1)
        whole = together(ledger, rows_on(START, "b", ("move", 0, 1, 4), ("put", 4, "x"), ("put", 3, "y")))
        self.assertEqual(text(whole), "bcdyax")
        self.asked(whole, name, (3, "b", 0), (), "out")
        self.asked(whole, name, (4, "b", 0), (), "out")

    def test_a_move_into_a_row(self):
        # cd goes between a and b: acdb; x between c and d stands within that row, y behind d in the outer one
        ledger, name = hung(START, 0, 2)
        moved = rows_on(self.moved, "b", ("move", 0, 2, 3), ("put", 2, "x"), ("put", 4, "y"), ("put", 1, "z"))
        self.assertEqual(text(moved), "azcxdyb")
        whole = together(ledger, moved)
        self.assertEqual(within(whole, name, (3, "b", 0)), self.m)
        self.assertEqual(within(whole, name, (3, "b", 1)), self.m)
        self.asked(whole, name, (4, "b", 0), (3, "b", 0), "out")
        self.asked(whole, name, (5, "b", 0), self.m, "row")
        self.asked(whole, name, (6, "b", 0), self.m, "row")
        self.assertEqual(held(whole, name), (A, B, (5, "b", 0), (6, "b", 0)))

    def test_a_row_of_signs_that_are_held_by_a_row(self):
        ledger, name = hung(START, 0, 2)
        moved = rows_on(self.moved, "b", ("put", 3, "xy"), ("move", 3, 5, 0), ("put", 1, "zw"), ("put", 0, "q"))
        self.assertEqual(text(moved), "qxzwycdab")
        whole = together(ledger, moved)
        self.asked(whole, name, (3, "b", 0), self.m, "row")
        for k in (0, 1):
            self.asked(whole, name, (5, "b", k), (4, "b", 0), "row")
        self.asked(whole, name, (6, "b", 0), (), "out")
        # once more: zw goes to the end, and v between them is held by a row of a row of a row
        deep = rows_on(moved, "b", ("move", 2, 4, 9), ("put", 8, "v"))
        self.assertEqual(text(deep), "qxycdabzvw")
        whole = together(ledger, deep)
        self.asked(whole, name, (8, "b", 0), (7, "b", 0), "row")

    def test_a_row_of_which_one_is_out(self):
        ledger, name = hung(START, 0, 2)
        moved = rows_on(self.moved, "b", ("put", 0, "x"), ("move", 3, 4, 0), ("move", 0, 2, 3), ("put", 2, "z"))
        # xcdab, axcdb, caxdb: a is held, x beside it in the row is not
        whole = together(ledger, moved)
        self.assertEqual(text(moved), "cazxdb")
        self.asked(whole, name, (6, "b", 0), (5, "b", 0), "out")


class ManyLedgers(unittest.TestCase):
    def test_by_the_words_of_the_document(self):
        words = set()
        for seed in range(150):
            ledger = remark_ledger(seed)
            kept = repr(ledger)
            for name in remarks(ledger):
                for slot, _, _ in slot_rows(ledger):
                    self.assertEqual(within(ledger, name, slot), model.within(ledger, name, slot))
                for sign in all_signs(ledger):
                    word = hold_word(ledger, name, sign)
                    words.add(word)
                    self.assertEqual(word, model.hold_word(ledger, name, sign))
                    self.assertEqual(word, hold_word(ledger, name, sign))
                self.assertEqual(held(ledger, name), model.held(ledger, name))
                self.assertEqual(held(ledger, name), held(ledger, name))
                self.assertIs(type(held(ledger, name)), tuple)
            self.assertEqual(repr(ledger), kept)
        self.assertEqual(words, {"stretch", "span", "row", "out"})

    def test_the_same_words_in_a_ledger_and_in_greater_ones(self):
        for seed in range(150):
            ledger = remark_ledger(seed)
            for part in (part_of(seed, ledger), upto(ledger, ledger[len(ledger) // 2][0])):
                for name in remarks(part):
                    inside = set(all_signs(part))
                    self.assertEqual(held(part, name), tuple(s for s in held(ledger, name) if s in inside))
                    for sign in all_signs(part):
                        self.assertEqual(hold_word(part, name, sign), hold_word(ledger, name, sign))

    def test_all_signs_of_a_put_that_is_not_known_have_one_word(self):
        for ledger in [any_ledger(seed, 16) for seed in range(100)] + [remark_ledger(seed) for seed in range(100)]:
            for name in remarks(ledger):
                words = {}
                for sign in all_signs(ledger):
                    if sign[:2] not in model.elders(ledger, name):
                        words.setdefault(sign[:2], set()).add(hold_word(ledger, name, sign))
                self.assertTrue(all(len(found) == 1 for found in words.values()))

    def test_a_move_turns_no_word(self):
        for seed in range(60):
            ledger = remark_ledger(seed)
            n = len(model.text(ledger))
            if n > 2:
                whole = laid(ledger, "new", ("move", 0, 2, n))
                for name in remarks(ledger):
                    self.assertEqual(held(whole, name), held(ledger, name))


if __name__ == "__main__":
    unittest.main()
