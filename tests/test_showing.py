"""Point [23], with [4]: SIGNS, what touched and moved them, where they stand."""

import unittest

from marginwords.knowing import known, upto
from marginwords.order import slot_order
from marginwords.showing import all_signs, is_shown, moves_of, slot_of, touches
from tests import model
from tests.ledgers import any_ledger, laid, part_of, rows_on, together

A, B, C, D = [(1, "ann", k) for k in range(4)]
START = rows_on((), "ann", ("put", 0, "abcd"))


def text(ledger):
    """The SIGNS of the TEXT, by what the program tells of each of them."""
    standing = {slot_of(ledger, sign): sign for sign in all_signs(ledger) if is_shown(ledger, sign)}
    return tuple(standing[slot] for slot in slot_order(ledger) if slot in standing)


class Touches(unittest.TestCase):
    def test_never_taken(self):
        for sign in (A, B, C, D):
            self.assertEqual(touches(START, sign), ())
            self.assertIs(is_shown(START, sign), True)
            self.assertEqual(moves_of(START, sign), ())
            self.assertEqual(slot_of(START, sign), sign)

    def test_taken_put_back_and_taken_again(self):
        ledger = rows_on(START, "ann", ("take", 1, 3), ("back", (2, "ann")), ("take", 0, 2))
        takes = ((2, "ann"), (3, "ann"), (4, "ann"))
        for many, shown, touched in (
            (1, (True, True), ((), ())),
            (2, (False, True), (takes[:1], ())),
            (3, (True, True), (takes[:2], ())),
            (4, (False, False), (takes, takes[2:])),
        ):
            elder = upto(ledger, (many, "ann"))
            self.assertEqual((is_shown(elder, B), is_shown(elder, A)), shown)
            self.assertEqual((touches(elder, B), touches(elder, A)), touched)
        self.assertEqual(touches(ledger, C), takes[:2])
        self.assertIs(is_shown(ledger, C), True)
        self.assertEqual(touches(ledger, D), ())

    def test_taken_by_two(self):
        ledger = together(laid(START, "b", ("take", 0, 2)), laid(START, "cyr", ("take", 1, 3)))
        self.assertEqual(touches(ledger, A), ((2, "b"),))
        self.assertEqual(touches(ledger, B), ((2, "b"), (2, "cyr")))
        self.assertEqual(touches(ledger, C), ((2, "cyr"),))
        self.assertEqual([is_shown(ledger, sign) for sign in (A, B, C, D)], [False, False, False, True])

    def test_a_back_shows_what_others_took_too(self):
        both = together(laid(START, "b", ("take", 0, 2)), laid(START, "cyr", ("take", 1, 3)))
        ledger = laid(both, "dd", ("back", (2, "b")))
        self.assertEqual(touches(ledger, B), ((2, "b"), (2, "cyr"), (3, "dd")))
        self.assertEqual(touches(ledger, C), ((2, "cyr"),))
        self.assertEqual([is_shown(ledger, sign) for sign in (A, B, C, D)], [True, True, False, True])

    def test_a_back_of_signs_that_are_shown_already(self):
        ledger = rows_on(START, "ann", ("take", 0, 1), ("back", (2, "ann")), ("back", (2, "ann")))
        self.assertEqual(touches(ledger, A), ((2, "ann"), (3, "ann"), (4, "ann")))
        self.assertIs(is_shown(ledger, A), True)
        self.assertEqual(touches(ledger, B), ())

    def test_the_greatest_name_is_the_last_though_it_knows_nothing_of_the_others(self):
        left = rows_on(START, "b", ("take", 0, 1), ("back", (2, "b")))
        late = rows_on(START, "cyr", ("put", 4, "x"), ("put", 4, "x"), ("take", 0, 1))
        ledger = together(left, late)
        self.assertEqual(touches(ledger, A), ((2, "b"), (3, "b"), (4, "cyr")))
        self.assertIs(is_shown(ledger, A), False)
        early = laid(START, "cyr", ("take", 0, 1))
        self.assertEqual(touches(together(left, early), A), ((2, "b"), (2, "cyr"), (3, "b")))
        self.assertIs(is_shown(together(left, early), A), True)

    def test_a_take_speaks_of_the_text_of_what_is_known(self):
        ledger = rows_on(START, "b", ("move", 0, 2, 4), ("take", 0, 1), ("put", 0, "x"), ("take", 1, 3))
        # cdab, dab, xdab, xb
        self.assertEqual(touches(ledger, C), ((3, "b"),))
        self.assertEqual(touches(ledger, D), ((5, "b"),))
        self.assertEqual(touches(ledger, A), ((5, "b"),))
        self.assertEqual(text(ledger), ((4, "b", 0), B))
        side = together(ledger, laid(START, "cyr", ("take", 0, 1)))
        self.assertEqual(touches(side, A), ((2, "cyr"), (5, "b")))
        self.assertEqual(touches(side, C), ((3, "b"),))


class Moves(unittest.TestCase):
    def test_moved_by_one(self):
        ledger = rows_on(START, "b", ("move", 0, 2, 4), ("move", 2, 3, 0))
        self.assertEqual(moves_of(ledger, A), ((2, "b"), (3, "b")))
        self.assertEqual(moves_of(ledger, B), ((2, "b"),))
        self.assertEqual(moves_of(ledger, C), ())
        self.assertEqual([slot_of(ledger, s) for s in (A, B, C, D)], [(3, "b", 0), (2, "b", 1), C, D])
        self.assertEqual(slot_of(upto(ledger, (2, "b")), A), (2, "b", 0))
        self.assertEqual(moves_of(upto(ledger, (1, "b")), A), ())

    def test_moved_by_two_branches(self):
        ledger = together(laid(START, "b", ("move", 0, 2, 4)), laid(START, "cyr", ("move", 1, 3, 0)))
        self.assertEqual(moves_of(ledger, A), ((2, "b"),))
        self.assertEqual(moves_of(ledger, B), ((2, "b"), (2, "cyr")))
        self.assertEqual([slot_of(ledger, s) for s in (A, B, C, D)], [(2, "b", 0), (2, "cyr", 0), (2, "cyr", 1), D])
        self.assertEqual(text(ledger), (B, C, D, A))

    def test_a_move_of_a_sign_that_another_took(self):
        ledger = together(laid(START, "b", ("take", 0, 1)), laid(START, "cyr", ("move", 0, 1, 4)))
        self.assertIs(is_shown(ledger, A), False)
        self.assertEqual(slot_of(ledger, A), (2, "cyr", 0))
        again = laid(ledger, "dd", ("back", (2, "b")))
        self.assertEqual(text(again), (B, C, D, A))


class ManyLedgers(unittest.TestCase):
    def test_all_signs(self):
        self.assertEqual(all_signs(()), ())
        self.assertEqual(all_signs(START), (A, B, C, D))
        ledger = together(rows_on(START, "b", ("take", 0, 4), ("put", 0, "x y")), laid((), "z", ("put", 0, "q")))
        self.assertEqual(all_signs(ledger), (A, B, C, D, (1, "z", 0), (3, "b", 0), (3, "b", 1), (3, "b", 2)))

    def test_by_the_words_of_the_document(self):
        for seed in range(80):
            ledger = any_ledger(seed)
            for each in (ledger, part_of(seed, ledger)):
                kept = repr(each)
                self.assertEqual(all_signs(each), model.signs(each))
                for sign in all_signs(each):
                    self.assertEqual(touches(each, sign), model.touches(each, sign))
                    self.assertEqual(moves_of(each, sign), model.moves_of(each, sign))
                    self.assertEqual(slot_of(each, sign), model.slot_of(each, sign))
                    self.assertIs(is_shown(each, sign), model.is_shown(each, sign))
                self.assertEqual(text(each), model.text(each))
                self.assertEqual(text(each), text(each))
                self.assertEqual(repr(each), kept)

    def test_each_deed_does_to_the_text_what_it_says(self):
        for seed in range(60):
            ledger = any_ledger(seed)
            for change in ledger:
                before = known(ledger, change[0])
                after = together(before, (change,))
                self.assertEqual(text(after), done(before, change))

    def test_what_is_told_are_tuples(self):
        ledger = rows_on(START, "b", ("move", 0, 2, 4), ("take", 2, 3))
        for told in (all_signs(ledger), touches(ledger, A), moves_of(ledger, A), slot_of(ledger, A)):
            self.assertIs(type(told), tuple)


def done(before, change):
    """The SIGNS of the TEXT that the DEED makes of that of what is known."""
    name, _, _, deed = change
    old = text(before)
    if deed[0] == "put":
        return old[: deed[1]] + tuple((*name, k) for k in range(len(deed[2]))) + old[deed[1] :]
    if deed[0] == "take":
        return old[: deed[1]] + old[deed[2] :]
    if deed[0] == "move":
        _, i, j, q = deed
        ahead = tuple(s for k, s in enumerate(old[:q]) if not i <= k < j)
        behind = tuple(s for k, s in enumerate(old) if k >= q and not i <= k < j)
        return ahead + old[i:j] + behind
    if deed[0] == "back":
        shown = set(old) | set(model.taken(before, deed[1]))
        slots = {slot_of(before, sign): sign for sign in shown}
        return tuple(slots[slot] for slot in slot_order(before) if slot in slots)
    return old


if __name__ == "__main__":
    unittest.main()
