"""Points [63], [64]: papers of STANDS, and the look at them."""

import random
import unittest

from marginwords.holdpapers import hold_paper
from marginwords.losspapers import loss_paper
from marginwords.spans import remarks
from marginwords.standchecker import lets_stand
from marginwords.standpapers import stand_paper
from marginwords.stands import stand
from tests import model
from tests.ledgers import any_ledger, laid, remark_ledger, rows_on, together
from tests.things import ODD, name_refusal, paper_refusal

A, B, C, D = [(1, "ann", k) for k in range(4)]
START = rows_on((), "ann", ("put", 0, "abcd"))
HUNG = laid(START, "hh", ("hang", 1, 3, "shut", "why"))
REMARK = (2, "hh")
# d stands behind a now, c was taken and put back; b is taken
THERE = rows_on(HUNG, "b", ("move", 3, 4, 1), ("take", 3, 4), ("back", (4, "b")), ("take", 2, 3))
ORDER = (A, (3, "b", 0), B, C, D)
HOLDS = (ORDER, ((A, "out", ()), (B, "stretch", ()), (C, "stretch", ()), (D, "out", ())))
ROWS = ((A, None), (B, (6, "b")), (C, (5, "b")), ((3, "b", 0), None))
LOST = laid(HUNG, "b", ("take", 1, 3))
LOST_HOLDS = ((A, B, C, D), HOLDS[1])
LOST_ROWS = ((A, None), (B, (3, "b")), (C, (3, "b")), (D, None))
LOSS = ((3, "b"), (LOST_HOLDS, (((3, "b"),), ((3, "b"),))))
UNSAID = laid(LOST, "hh", ("unsay", REMARK))


def refusal(ledger, thing, remark=REMARK):
    return paper_refusal(lets_stand, ledger, remark, thing)


def model_paper(ledger, remark):
    """The STAND PAPER by the words of [63]."""
    rows = []
    for sign in model.signs(ledger):
        touched = model.touches(ledger, sign)
        rows.append((model.slot_of(ledger, sign), touched[-1] if touched else None))
    holds = model.hold_paper(ledger, remark)
    lost = ()
    word, name = model.stand(ledger, remark)
    if word == "lost":
        lost = (name, (holds, tuple(model.last_row(ledger, sign) for sign in model.held(ledger, remark))))
    return holds, tuple(rows), lost


class Right(unittest.TestCase):
    def test_there(self):
        self.assertEqual(lets_stand(THERE, REMARK, (HOLDS, ROWS, ())), ("there", ((2, 3),)))
        self.assertEqual(stand_paper(THERE, REMARK), (HOLDS, ROWS, ()))

    def test_there_in_several_parts(self):
        ledger = laid(HUNG, "b", ("move", 3, 4, 2))
        rows = ((A, None), (B, None), (C, None), ((3, "b", 0), None))
        paper = (((A, B, (3, "b", 0), C, D), HOLDS[1]), rows, ())
        self.assertEqual(lets_stand(ledger, REMARK, paper), ("there", ((1, 2), (3, 4))))
        self.assertEqual(stand_paper(ledger, REMARK), paper)

    def test_lost(self):
        self.assertEqual(lets_stand(LOST, REMARK, (LOST_HOLDS, LOST_ROWS, LOSS)), ("lost", (3, "b")))
        self.assertEqual(stand_paper(LOST, REMARK), (LOST_HOLDS, LOST_ROWS, LOSS))

    def test_unsaid(self):
        self.assertEqual(lets_stand(UNSAID, REMARK, (LOST_HOLDS, LOST_ROWS, ())), ("unsaid", (4, "hh")))
        self.assertEqual(stand_paper(UNSAID, REMARK), (LOST_HOLDS, LOST_ROWS, ()))
        two = together(laid(HUNG, "b", ("unsay", REMARK)), laid(HUNG, "cyr", ("unsay", REMARK)))
        self.assertEqual(lets_stand(two, REMARK, stand_paper(two, REMARK)), ("unsaid", (3, "cyr")))

    def test_of_many_ledgers(self):
        words = set()
        for seed in range(150):
            for ledger in (remark_ledger(seed), any_ledger(seed)):
                kept = repr(ledger)
                for remark in remarks(ledger):
                    paper = stand_paper(ledger, remark)
                    self.assertEqual(paper, model_paper(ledger, remark))
                    for _ in range(2):
                        told = lets_stand(ledger, remark, paper)
                        self.assertEqual(told, model.stand(ledger, remark))
                        self.assertEqual(told, stand(ledger, remark))
                    self.assertIs(type(told), tuple)
                    words.add((told[0], told[0] == "there" and len(told[1]) > 1))
                self.assertEqual(repr(ledger), kept)
        self.assertEqual(words, {("there", False), ("there", True), ("lost", False), ("unsaid", False)})


class Refused(unittest.TestCase):
    def test_shape(self):
        for thing in ODD:
            if not isinstance(thing, tuple) or len(thing) != 3:
                self.assertEqual(refusal(THERE, thing), ("shape", -1))
        for thing in ([HOLDS, ROWS, ()], (HOLDS, ROWS), (HOLDS, ROWS, (), ()), HOLDS):
            self.assertEqual(refusal(THERE, thing), ("shape", -1))

    def test_as_hold_papers_are(self):
        order, entries = HOLDS
        cases = [
            (None, ("shape", -1)),
            ([order, entries], ("shape", -1)),
            ((order, entries[:1] + (None,) + entries[2:]), ("shape", 1)),
            ((order, entries[:3]), ("many", -1)),
            ((order[::-1], entries), ("order", -1)),
            ((order, entries[::-1]), ("sign", 0)),
            ((order, entries[:2] + ((C, "stretch", A),) + entries[3:]), ("within", 2)),
            ((order, entries[:3] + ((D, "stretch", ()),)), ("word", 3)),
            ((order, ((True, "out", ()),) + entries[1:]), ("sign", 0)),
            (((((True, "ann", 0),) + order[1:]), entries), ("order", -1)),
        ]
        for holds, wanted in cases:
            self.assertEqual(refusal(THERE, (holds, ROWS, ())), wanted)
            # ahead of all that is told of the others
            self.assertEqual(refusal(THERE, (holds, None, None)), wanted)

    def test_odd_holds(self):
        for thing in ODD:
            self.assertIsNotNone(refusal(THERE, (thing, ROWS, ())))

    def test_rows(self):
        for rows in ODD + (list(ROWS), ROWS[:3], ROWS + ROWS[:1], ()):
            self.assertEqual(refusal(THERE, (HOLDS, rows, ())), ("rows", -1))

    def test_row(self):
        for thing in ODD + ([A, None], (A,), (A, None, None)):
            if isinstance(thing, tuple) and len(thing) == 2:
                continue
            for k in range(4):
                rows = ROWS[:k] + (thing,) + ROWS[k + 1 :]
                self.assertEqual(refusal(THERE, (HOLDS, rows, ())), ("row", k))

    def test_slot(self):
        for k in range(4):
            for thing in ODD + ((1, "b", 0), (3, "b", 1), (9, "zz", 0), (1, "ann", False), (True, "ann", 0)):
                if repr(thing) != repr(ROWS[k][0]):
                    rows = ROWS[:k] + ((thing, ROWS[k][1]),) + ROWS[k + 1 :]
                    self.assertEqual(refusal(THERE, (HOLDS, rows, ())), ("slot", k))
        # d was moved: its put's slot isn't where it stands
        self.assertEqual(refusal(THERE, (HOLDS, ROWS[:3] + ((D, None),), ())), ("slot", 3))

    def test_touch(self):
        for k in range(4):
            for thing in ODD + ((4, "b"), (3, "b"), (5, "b"), (6, "b"), [5, "b"]):
                if repr(thing) != repr(ROWS[k][1]):
                    rows = ROWS[:k] + ((ROWS[k][0], thing),) + ROWS[k + 1 :]
                    self.assertEqual(refusal(THERE, (HOLDS, rows, ())), ("touch", k))

    def test_true_is_no_1(self):
        ledger = rows_on((), "a", ("put", 0, "x"), ("hang", 0, 1, "shut", "why"), ("take", 0, 1))
        paper = stand_paper(ledger, (2, "a"))
        self.assertEqual(lets_stand(ledger, (2, "a"), paper), ("lost", (3, "a")))
        spoilt = (paper[0], (((True, "a", 0), (3, "a")),), paper[2])
        self.assertEqual(refusal(ledger, spoilt, (2, "a")), ("slot", 0))
        self.assertEqual(refusal(ledger, (paper[0], (((1, "a", False), (3, "a")),), paper[2]), (2, "a")), ("slot", 0))

    def test_lost_where_it_is_not(self):
        for ledger, holds, rows in ((THERE, HOLDS, ROWS), (UNSAID, LOST_HOLDS, LOST_ROWS)):
            for thing in ODD + (LOSS, ((4, "hh"), ()), ((6, "b"), None)):
                if thing != () or not isinstance(thing, tuple):
                    self.assertEqual(refusal(ledger, (holds, rows, thing)), ("lost", -1))

    def test_lost_that_is_no_name_and_another_thing(self):
        for thing in ODD + (list(LOSS), LOSS[:1], LOSS + ((),), ([3, "b"], LOSS[1]), ((True, "b"), LOSS[1]),
                            ((0, "b"), LOSS[1]), (None, LOSS[1]), LOSS[1]):
            self.assertEqual(refusal(LOST, (LOST_HOLDS, LOST_ROWS, thing)), ("lost", -1))

    def test_as_loss_papers_are(self):
        name, (holds, rows) = LOSS
        cases = [
            (name, None, ("shape", -1)),
            (name, [holds, rows], ("shape", -1)),
            (name, (holds, list(rows)), ("shape", -1)),
            (name, (None, rows), ("holds", -1)),
            (name, (HOLDS, rows), ("holds", -1)),
            (name, (holds, rows[:1]), ("many", -1)),
            (name, (holds, (rows[0], ())), ("row", 1)),
            (name, (holds, (rows[0], ((4, "b"),))), ("row", 1)),
            ((1, "ann"), (holds, rows), ("loser", -1)),
            ((9, "zz"), (holds, rows), ("loser", -1)),
        ]
        for name, paper, wanted in cases:
            self.assertEqual(refusal(LOST, (LOST_HOLDS, LOST_ROWS, (name, paper))), wanted)

    def test_two_due_at_once(self):
        self.assertEqual(refusal(THERE, [None, None]), ("shape", -1))
        self.assertEqual(refusal(THERE, (None, None, None)), ("shape", -1))
        self.assertEqual(refusal(THERE, (HOLDS, ROWS[:3], None)), ("rows", -1))
        self.assertEqual(refusal(THERE, (HOLDS, (None,) * 4, None)), ("row", 0))
        rows = ((A, A), (B, (6, "b")), None, None)
        self.assertEqual(refusal(THERE, (HOLDS, rows, None)), ("touch", 0))
        self.assertEqual(refusal(THERE, (HOLDS, ((B, A), None, None, None), None)), ("slot", 0))
        self.assertEqual(refusal(LOST, (LOST_HOLDS, LOST_ROWS[:3] + ((D, D),), None)), ("touch", 3))
        self.assertEqual(refusal(LOST, (LOST_HOLDS, LOST_ROWS, (None, None))), ("lost", -1))

    def test_papers_of_other_ledgers_and_remarks(self):
        two = laid(THERE, "b", ("hang", 0, 1, "shut", "so"))
        self.assertIsNone(refusal(two, stand_paper(THERE, REMARK)))
        self.assertEqual(refusal(two, stand_paper(two, (7, "b"))), ("word", 0))
        self.assertEqual(refusal(THERE, stand_paper(LOST, REMARK)), ("order", -1))
        self.assertEqual(refusal(HUNG, stand_paper(LOST, REMARK)), ("touch", 1))
        self.assertEqual(refusal(LOST, stand_paper(UNSAID, REMARK)), ("lost", -1))
        self.assertEqual(refusal(UNSAID, stand_paper(LOST, REMARK)), ("lost", -1))
        self.assertEqual(refusal(THERE, hold_paper(THERE, REMARK)), ("shape", -1))

    def test_no_name(self):
        ledger = rows_on(HUNG, "hh", ("answer", REMARK, "no"), ("take", 0, 4), ("unsay", REMARK))
        for name in ((1, "ann"), (3, "hh"), (4, "hh"), (5, "hh"), (2, "b"), (10**199, "hh")):
            self.assertEqual(name_refusal(stand_paper, ledger, name), (name,))
            self.assertEqual(name_refusal(stand_paper, (), name), (name,))
            for thing in (None, (), stand_paper(ledger, REMARK)):
                self.assertEqual(name_refusal(lets_stand, ledger, name, thing), (name,))

    def test_one_spoilt_thing_is_found(self):
        chance = random.Random(2)
        for seed in range(120):
            ledger = remark_ledger(seed)
            remark = remarks(ledger)[0]
            holds, rows, lost = stand_paper(ledger, remark)
            k = chance.randrange(len(rows))
            slot, touch = rows[k]
            other = chance.choice([each for each in model.order(ledger) if each != slot])
            self.assertEqual(
                refusal(ledger, (holds, rows[:k] + ((other, touch),) + rows[k + 1 :], lost), remark), ("slot", k)
            )
            name = chance.choice([change[0] for change in ledger if change[0] != touch] + [None] * (touch is not None))
            self.assertEqual(
                refusal(ledger, (holds, rows[:k] + ((slot, name),) + rows[k + 1 :], lost), remark), ("touch", k)
            )
            if lost:
                self.assertEqual(lost, loss_paper(ledger, remark))
                self.assertEqual(refusal(ledger, (holds, rows, ()), remark), ("lost", -1))

    def test_what_is_handed_in_stays(self):
        thing = (HOLDS, ROWS[:3] + ([D, [None]],), [])
        before = repr((THERE, thing))
        self.assertEqual(refusal(THERE, thing), ("row", 3))
        self.assertEqual(repr((THERE, thing)), before)


if __name__ == "__main__":
    unittest.main()
