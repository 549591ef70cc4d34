"""Points [47], [48], [49]: whether a settled REMARK comes up again, since when, and its word."""

import unittest

from marginwords.calling import caller, is_up, word_of
from marginwords.knowing import known
from marginwords.spans import remarks
from marginwords.stands import look
from marginwords.talking import decided
from tests import model
from tests.ledgers import any_ledger, laid, part_of, remark_ledger, rows_on, together
from tests.things import name_refusal

START = rows_on((), "ann", ("put", 0, "abcdef"))
HUNG = laid(START, "ann", ("hang", 1, 4, "shut", "why"))
REMARK = (2, "ann")
SETTLED = laid(HUNG, "ann", ("settle", REMARK))


class Calling(unittest.TestCase):
    def told(self, ledger, word, name=None, up=None, remark=REMARK):
        """Its word, its CALLER; up where its word hides that."""
        self.assertEqual(word_of(ledger, remark), word)
        self.assertIs(is_up(ledger, remark), word == "up" if up is None else up)
        self.assertEqual(caller(ledger, remark), name)

    def test_without_a_settle(self):
        self.told(HUNG, "open")
        self.told(laid(HUNG, "ann", ("take", 1, 2)), "open")
        self.told(laid(HUNG, "ann", ("answer", REMARK, "no")), "open")

    def test_settled_and_as_it_was(self):
        self.told(SETTLED, "settled")
        self.told(laid(SETTLED, "b", ("answer", REMARK, "no")), "settled")
        self.told(laid(SETTLED, "b", ("hang", 0, 6, "wide", "so")), "settled")

    def test_settled_and_changed(self):
        for deed in (("take", 1, 2), ("take", 3, 4), ("put", 2, "x"), ("move", 1, 2, 0), ("move", 5, 6, 2)):
            ledger = laid(SETTLED, "b", deed)
            self.told(ledger, "up", (4, "b"))
            self.told(laid(ledger, "b", ("put", 0, "x")), "up", (4, "b"))

    def test_moved_as_a_whole_it_looks_as_it_did(self):
        self.told(laid(SETTLED, "b", ("move", 1, 4, 0)), "settled")
        self.told(laid(SETTLED, "b", ("move", 0, 5, 6)), "settled")
        self.told(laid(SETTLED, "b", ("move", 1, 3, 0)), "up", (4, "b"))

    def test_parted_with_the_same_signs(self):
        ledger = laid(SETTLED, "b", ("move", 0, 1, 3))
        self.assertEqual([len(part) for part in look(ledger, REMARK)], [2, 1])
        self.told(ledger, "up", (4, "b"))
        self.told(laid(ledger, "b", ("take", 2, 3)), "settled")

    def test_changed_and_changed_back(self):
        ledger = rows_on(SETTLED, "b", ("take", 2, 3), ("back", (4, "b")))
        self.told(ledger, "settled")
        self.told(laid(ledger, "b", ("take", 2, 3)), "up", (6, "b"))
        put = rows_on(SETTLED, "b", ("put", 2, "x"), ("take", 2, 3))
        self.told(put, "settled")
        self.told(laid(put, "cyr", ("back", (5, "b"))), "up", (6, "cyr"))

    def test_opened_again(self):
        ledger = laid(SETTLED, "b", ("take", 2, 3))
        self.told(laid(ledger, "b", ("open", REMARK)), "open")
        self.told(laid(SETTLED, "b", ("open", REMARK)), "open")

    def test_settled_anew(self):
        ledger = rows_on(SETTLED, "b", ("take", 2, 3), ("settle", REMARK))
        self.told(ledger, "settled")
        self.told(laid(ledger, "b", ("back", (4, "b"))), "up", (6, "b"))
        again = rows_on(SETTLED, "b", ("take", 2, 3), ("open", REMARK), ("settle", REMARK))
        self.told(again, "settled")

    def test_lost_behind_the_settle(self):
        ledger = laid(SETTLED, "b", ("take", 0, 6))
        self.told(ledger, "lost", (4, "b"), up=True)
        self.told(laid(ledger, "b", ("put", 0, "x")), "lost", (4, "b"), up=True)
        self.told(laid(ledger, "b", ("back", (4, "b"))), "settled")

    def test_lost_ahead_of_the_settle(self):
        lost = rows_on(HUNG, "b", ("take", 0, 6), ("settle", REMARK))
        self.told(lost, "lost")
        self.told(laid(lost, "b", ("back", (3, "b"))), "up", (5, "b"))

    def test_unsaid_behind_the_settle(self):
        ledger = laid(SETTLED, "ann", ("unsay", REMARK))
        self.told(ledger, "unsaid", (4, "ann"), up=True)
        # of two due at once unsaid goes ahead of lost, both go ahead of up
        self.told(laid(ledger, "ann", ("take", 0, 6)), "unsaid", (4, "ann"), up=True)
        self.told(rows_on(SETTLED, "ann", ("take", 0, 6), ("unsay", REMARK)), "unsaid", (4, "ann"), up=True)

    def test_lost_or_unsaid_without_a_settle(self):
        self.told(laid(HUNG, "b", ("take", 0, 6)), "lost")
        self.told(rows_on(HUNG, "b", ("unsay", REMARK), ("take", 0, 6)), "unsaid")

    def test_lost_ahead_and_unsaid_behind_it_looks_as_it_did(self):
        ledger = rows_on(HUNG, "ann", ("take", 0, 6), ("settle", REMARK))
        side = together(ledger, laid(HUNG, "b", ("unsay", REMARK)))
        self.told(side, "unsaid")

    def test_settles_of_two_branches(self):
        changed = rows_on(HUNG, "b", ("take", 2, 3), ("settle", REMARK))
        # the greater settle, of b, knows of the take; the lesser one doesn't
        self.told(together(SETTLED, changed), "settled")
        late = rows_on(HUNG, "cyr", ("put", 0, "x"), ("put", 0, "y"), ("settle", REMARK))
        self.told(together(changed, late), "up", (3, "b"))

    def test_a_change_of_another_branch_with_a_lesser_name_than_the_settle(self):
        late = rows_on(HUNG, "ann", ("put", 6, "x"), ("settle", REMARK))
        ledger = together(late, laid(START, "b", ("take", 2, 3)))
        self.assertEqual(decided(ledger, REMARK), ("settle", (4, "ann")))
        self.told(ledger, "up", (2, "b"))
        ahead = together(late, laid(START, "aa", ("take", 2, 3)))
        self.told(ahead, "up", (2, "aa"))
        back = together(late, rows_on(START, "b", ("take", 2, 3), ("back", (2, "b"))))
        self.told(back, "settled")
        # cyr's put comes between the take and the back by names: so it never looks as it did from the take on
        self.told(together(back, laid(START, "cyr", ("put", 3, "x"))), "up", (2, "b"))
        self.told(together(back, rows_on(START, "cyr", ("put", 0, "y"), ("put", 4, "x"))), "up", (3, "cyr"))

    def test_called_by_the_lesser_of_two_that_are_laid_one_by_one(self):
        # (2, b) takes what (4, cyr) puts back; a third one keeps it changed all along
        b = laid(START, "b", ("take", 2, 3))
        late = rows_on(HUNG, "ann", ("put", 6, "x"), ("settle", REMARK))
        self.told(together(late, b, laid(START, "cyr", ("put", 3, "x"))), "up", (2, "b"))
        # where the put is taken out again, the take still calls; where the take is put back, nothing does
        gone = rows_on(START, "cyr", ("put", 3, "x"), ("take", 3, 4))
        self.told(together(late, b, gone), "up", (2, "b"))
        self.told(together(late, laid(b, "b", ("back", (2, "b"))), gone), "settled")

    def test_not_by_the_last_change_alone(self):
        # down again between two calls: the second one is told
        ledger = rows_on(SETTLED, "b", ("take", 1, 2), ("back", (4, "b")), ("put", 2, "x"), ("put", 2, "y"))
        self.told(ledger, "up", (6, "b"))

    def test_what_else_came_changes_nothing(self):
        for deed in (("put", 0, "x"), ("put", 1, "x"), ("put", 6, "x"), ("take", 0, 1), ("take", 4, 6),
                     ("move", 0, 1, 6), ("move", 4, 5, 0), ("put", 4, "x")):
            for base in (START, HUNG, SETTLED):
                ledger = together(SETTLED, laid(base, "b", deed))
                self.told(ledger, "settled")
                self.told(laid(ledger, "b", ("put", 0, "y")), "settled")

    def test_of_edge_wide(self):
        hung = laid(START, "ann", ("hang", 1, 4, "wide", "why"))
        settled = laid(hung, "ann", ("settle", REMARK))
        for deed in (("put", 1, "x"), ("put", 4, "x")):
            self.told(laid(settled, "b", deed), "up", (4, "b"))
        for deed in (("put", 0, "x"), ("put", 5, "x")):
            self.told(laid(settled, "b", deed), "settled")

    def test_of_another_remark(self):
        two = rows_on(SETTLED, "ann", ("hang", 0, 1, "shut", "so"), ("settle", (4, "ann")), ("take", 0, 1))
        self.told(two, "settled")
        self.told(two, "lost", (6, "ann"), True, (4, "ann"))

    def test_no_name(self):
        ledger = rows_on(SETTLED, "b", ("answer", REMARK, "no"), ("take", 0, 6))
        for name in ((1, "ann"), (3, "ann"), (4, "b"), (5, "b"), (2, "b"), (10**199, "ann")):
            for ask in (is_up, caller, word_of):
                self.assertEqual(name_refusal(ask, ledger, name), (name,))
                self.assertEqual(name_refusal(ask, (), name), (name,))


def said_ledger(seed):
    """A LEDGER whose REMARK is settled, between any other CHANGES."""
    ledger = remark_ledger(seed)
    remark = model.remarks(ledger)[0]
    if model.misfit(ledger, "ann", ("settle", remark)) is None:
        part = part_of(seed, ledger)
        if remark in model.by_name(part) and not model.said(ledger, ["unsay"], remark):
            ledger = together(ledger, laid(part, "zz", ("settle", remark)))
    return ledger


class ManyLedgers(unittest.TestCase):
    def test_by_the_words_of_the_document(self):
        words = {}
        for seed in range(260):
            for ledger in (said_ledger(seed), any_ledger(seed, 14)):
                kept = repr(ledger)
                for remark in remarks(ledger):
                    for _ in range(2):
                        word = word_of(ledger, remark)
                        self.assertEqual(word, model.word_of(ledger, remark))
                        self.assertIs(is_up(ledger, remark), model.is_up(ledger, remark))
                        self.assertEqual(caller(ledger, remark), model.caller(ledger, remark))
                    words[word] = words.get(word, 0) + 1
                self.assertEqual(repr(ledger), kept)
        self.assertEqual(set(words), {"unsaid", "lost", "up", "settled", "open"})
        self.assertGreater(min(words.values()), 15)

    def test_the_caller_has_a_lesser_name_than_the_settle_now_and_then(self):
        lesser = greater = 0
        for seed in range(260):
            ledger = said_ledger(seed)
            for remark in remarks(ledger):
                name = caller(ledger, remark)
                lesser += name is not None and name < decided(ledger, remark)[1]
                greater += name is not None and name > decided(ledger, remark)[1]
        self.assertGreater(lesser, 5)
        self.assertGreater(greater, 5)

    def test_in_what_is_known_to_its_settle_it_is_not_up(self):
        for seed in range(120):
            ledger = said_ledger(seed)
            for change in ledger:
                if change[3][0] == "settle":
                    alone = known(ledger, change[0]) + (change,)
                    self.assertIs(is_up(alone, change[3][1]), False)
                    self.assertIsNone(caller(alone, change[3][1]))

    def test_not_up_where_the_same_row_is_shown_and_held(self):
        def row_of(ledger, remark):
            inside = set(model.held(ledger, remark))
            shown = model.text(ledger)
            places = [place for place, sign in enumerate(shown) if sign in inside]
            row = shown[min(places) : max(places) + 1] if places else ()
            return row, tuple(sign for sign in row if sign in inside)

        same = 0
        for seed in range(260):
            ledger = said_ledger(seed)
            for remark in remarks(ledger):
                word, settle = decided(ledger, remark) or (None, None)
                if word == "settle" and word_of(ledger, remark) != "unsaid":
                    then = row_of(known(ledger, settle), remark)
                    if row_of(ledger, remark) == then:
                        same += ledger[-1][0] > settle
                        self.assertIs(is_up(ledger, remark), False)
        self.assertGreater(same, 5)


if __name__ == "__main__":
    unittest.main()
