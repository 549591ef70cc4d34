"""Points [41], [42], with [5]: the STAND and the LOOK of a REMARK."""

import unittest

from marginwords.holding import hold_word
from marginwords.knowing import known, knows
from marginwords.showing import is_shown
from marginwords.spans import remarks
from marginwords.stands import look, stand
from marginwords.texts import text
from tests import model
from tests.ledgers import any_ledger, laid, part_of, remark_ledger, rows_on, together
from tests.things import name_refusal

A, B, C, D = [(1, "ann", k) for k in range(4)]
START = rows_on((), "ann", ("put", 0, "abcd"))
NAME = (2, "hh")


def hung(i, j, edge="shut", hand="ann"):
    """The START with a REMARK of the NAME (2, "hh")."""
    return laid(START, "hh", ("hang", i, j, edge, "why"), hand)


class There(unittest.TestCase):
    def asked(self, ledger, parts, signs, name=NAME):
        self.assertEqual(stand(ledger, name), ("there", parts))
        self.assertEqual(look(ledger, name), signs)

    def test_where_it_was_hung(self):
        for edge in ("shut", "wide"):
            self.asked(hung(0, 4, edge), ((0, 4),), ((A, B, C, D),))
            self.asked(hung(0, 1, edge), ((0, 1),), ((A,),))
            self.asked(hung(3, 4, edge), ((3, 4),), ((D,),))
            self.asked(hung(1, 3, edge), ((1, 3),), ((B, C),))

    def test_with_puts_and_takes_of_others(self):
        whole = together(hung(1, 3), laid(START, "b", ("put", 0, "xy")), laid(START, "cyr", ("take", 1, 2)))
        self.assertEqual(text(whole), "xyacd")
        self.asked(whole, ((3, 4),), ((C,),))
        whole = rows_on(hung(1, 3), "b", ("put", 2, "xy"), ("put", 1, "q"))
        self.assertEqual(text(whole), "aqbxycd")
        self.asked(whole, ((2, 6),), ((B, (3, "b", 0), (3, "b", 1), C),))
        whole = rows_on(hung(1, 3, "wide"), "b", ("put", 2, "xy"), ("put", 1, "q"))
        self.asked(whole, ((1, 6),), (((4, "b", 0), B, (3, "b", 0), (3, "b", 1), C),))

    def test_what_was_put_stays_held_where_all_else_is_taken(self):
        whole = rows_on(hung(1, 3), "b", ("put", 2, "x"), ("take", 1, 2), ("take", 2, 3))
        self.assertEqual(text(whole), "axd")
        self.asked(whole, ((1, 2),), (((3, "b", 0),),))

    def test_moved_as_one(self):
        whole = together(hung(1, 3), laid(START, "b", ("move", 1, 3, 0)))
        self.assertEqual(text(whole), "bcad")
        self.asked(whole, ((0, 2),), ((B, C),))

    def test_parted_by_a_move(self):
        whole = together(hung(0, 3), laid(START, "b", ("move", 1, 2, 4)))
        self.assertEqual(text(whole), "acdb")
        self.asked(whole, ((0, 2), (3, 4)), ((A, C), (B,)))
        whole = laid(whole, "b", ("move", 1, 2, 4))
        self.assertEqual(text(whole), "adbc")
        self.asked(whole, ((0, 1), (2, 4)), ((A,), (B, C)))

    def test_parted_by_a_strange_sign(self):
        whole = together(hung(0, 3), laid(START, "b", ("move", 3, 4, 1)))
        self.assertEqual(text(whole), "adbc")
        self.asked(whole, ((0, 1), (2, 4)), ((A,), (B, C)))
        # it comes together again where that sign is taken
        self.asked(laid(whole, "b", ("take", 1, 2)), ((0, 3),), ((A, B, C),))

    def test_three_parts(self):
        whole = rows_on(hung(0, 3), "b", ("put", 4, "xy"), ("move", 4, 5, 1), ("move", 5, 6, 3), ("take", 5, 6))
        self.assertEqual(text(whole), "axbyc")
        self.asked(whole, ((0, 1), (2, 3), (4, 5)), ((A,), (B,), (C,)))

    def test_in_another_order(self):
        whole = together(hung(0, 2), laid(START, "b", ("move", 1, 2, 0)))
        self.asked(whole, ((0, 2),), ((B, A),))

    def test_hidden_then_put_back(self):
        taken = laid(START, "ann", ("take", 1, 2))
        whole = laid(taken, "hh", ("hang", 0, 2, "shut", "why"))
        self.asked(whole, ((0, 2),), ((A, C),), (3, "hh"))
        self.asked(laid(whole, "b", ("back", (2, "ann"))), ((0, 3),), ((A, B, C),), (3, "hh"))

    def test_a_put_in_a_row_of_a_move(self):
        moved = rows_on(START, "b", ("move", 0, 2, 4), ("put", 3, "x"))
        self.assertEqual(text(moved), "cdaxb")
        self.asked(together(hung(0, 2), moved), ((2, 5),), ((A, (3, "b", 0), B),))
        self.asked(together(hung(0, 1, "wide"), moved), ((2, 3),), ((A,),))


class LostOrUnsaid(unittest.TestCase):
    def test_lost(self):
        whole = together(hung(1, 3), laid(START, "b", ("take", 0, 4)))
        self.assertEqual((stand(whole, NAME), look(whole, NAME)), (("lost", (2, "b")), ()))
        again = laid(whole, "cyr", ("back", (2, "b")))
        self.assertEqual((stand(again, NAME), look(again, NAME)), (("there", ((1, 3),)), ((B, C),)))

    def test_lost_where_nothing_is_shown_at_all_and_where_something_is(self):
        for deed in (("take", 0, 4), ("take", 1, 3)):
            whole = laid(hung(1, 3), "b", deed)
            self.assertEqual((stand(whole, NAME), look(whole, NAME)), (("lost", (3, "b")), ()))

    def test_unsaid(self):
        whole = laid(hung(1, 3), "hh", ("unsay", NAME))
        self.assertEqual((stand(whole, NAME), look(whole, NAME)), (("unsaid", (3, "hh")), ()))

    def test_unsaid_by_two_branches_the_greatest(self):
        whole = together(laid(hung(1, 3), "b", ("unsay", NAME)), laid(hung(1, 3), "cyr", ("unsay", NAME)))
        self.assertEqual(stand(whole, NAME), ("unsaid", (3, "cyr")))

    def test_unsaid_and_lost_at_once(self):
        lost = laid(hung(1, 3), "b", ("take", 0, 4))
        whole = laid(lost, "b", ("unsay", NAME))
        self.assertEqual((stand(whole, NAME), look(whole, NAME)), (("unsaid", (4, "b")), ()))
        side = together(lost, laid(hung(1, 3), "a", ("unsay", NAME)))
        self.assertEqual((stand(side, NAME), look(side, NAME)), (("unsaid", (3, "a")), ()))

    def test_an_unsaid_answer_or_another_remark_does_nothing(self):
        talk = rows_on(hung(1, 3), "hh", ("answer", NAME, "no"), ("unsay", (3, "hh")))
        self.assertEqual(stand(talk, NAME), ("there", ((1, 3),)))
        two = rows_on(hung(1, 3), "hh", ("hang", 0, 1, "wide", "so"), ("unsay", (3, "hh")))
        self.assertEqual(stand(two, NAME), ("there", ((1, 3),)))
        self.assertEqual(stand(two, (3, "hh")), ("unsaid", (4, "hh")))


class NoNames(unittest.TestCase):
    def test_each_function(self):
        ledger = rows_on(hung(1, 3), "hh", ("answer", NAME, "no"), ("unsay", NAME), ("take", 0, 4))
        for name in ((1, "ann"), (3, "hh"), (4, "hh"), (5, "hh"), (2, "b"), (10**199, "hh")):
            for ask in (stand, look):
                self.assertEqual(name_refusal(ask, ledger, name), (name,))
                self.assertEqual(name_refusal(ask, (), name), (name,))


class ManyLedgers(unittest.TestCase):
    def test_by_the_words_of_the_document(self):
        words = set()
        for seed in range(200):
            for ledger in (remark_ledger(seed), any_ledger(seed)):
                kept = repr(ledger)
                for name in remarks(ledger):
                    told = stand(ledger, name)
                    words.add((told[0], min(3, len(told[1])) if told[0] == "there" else 0))
                    self.assertEqual(told, model.stand(ledger, name))
                    self.assertEqual(look(ledger, name), model.look(ledger, name))
                    self.assertEqual((stand(ledger, name), look(ledger, name)), (told, model.look(ledger, name)))
                    self.assertEqual({type(told), type(look(ledger, name))}, {tuple})
                self.assertEqual(repr(ledger), kept)
        self.assertEqual(words, {("there", 1), ("there", 2), ("there", 3), ("lost", 0), ("unsaid", 0)})

    def test_with_what_is_known_to_it_alone(self):
        for seed in range(120):
            ledger = remark_ledger(seed)
            for name in remarks(ledger):
                before = known(ledger, name)
                alone = together(before, tuple(change for change in ledger if change[0] == name))
                _, i, j, _, _ = model.deed_of(ledger, name)
                self.assertEqual(stand(alone, name), ("there", ((i, j),)))
                self.assertEqual(look(alone, name), (model.text(before)[i:j],))

    def test_where_all_moves_are_known_it_never_parts(self):
        many = 0
        for seed in range(300):
            ledger = part_of(seed, remark_ledger(seed))
            for name in remarks(ledger):
                moves = [change[0] for change in ledger if change[3][0] == "move"]
                if all(knows(ledger, name, move) for move in moves):
                    word, parts = stand(ledger, name)
                    many += word != "unsaid"
                    self.assertTrue(word in ("lost", "unsaid") or len(parts) == 1)
        self.assertGreater(many, 100)

    def test_a_put_between_two_of_a_row(self):
        words = set()
        for seed in range(200):
            ledger = remark_ledger(seed)
            rows = {slot: (parent, sign) for slot, parent, sign in model.slot_rows(ledger)}
            for name in remarks(ledger):
                elders = model.elders(ledger, name)
                for sign in model.signs(ledger):
                    row = rows[sign][0] if sign[2] == 0 else ()
                    following = row and (*row[:2], row[2] + 1)
                    if not row or model.deed_of(ledger, row[:2])[0] != "move" or following not in rows:
                        continue
                    if row[:2] in elders:
                        continue
                    both = [hold_word(ledger, name, rows[slot][1]) != "out" for slot in (row, following)]
                    words.add(tuple(both))
                    self.assertEqual(hold_word(ledger, name, sign) != "out", all(both))
        self.assertGreaterEqual(words, {(True, True), (False, False)})

    def test_a_look_has_each_shown_sign_that_is_held(self):
        for seed in range(80):
            ledger = remark_ledger(seed)
            for name in remarks(ledger):
                inside = [s for s in model.held(ledger, name) if is_shown(ledger, s)]
                if stand(ledger, name)[0] != "unsaid":
                    self.assertEqual(sorted(sign for part in look(ledger, name) for sign in part), inside)


if __name__ == "__main__":
    unittest.main()
