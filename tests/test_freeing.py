"""Points [59], [60], [61], [62]: what has to be left out that a lost REMARK stands again, and papers of it."""

import random
import unittest

from marginwords.freechecker import lets_free
from marginwords.freeing import freed
from marginwords.freepapers import free_paper
from marginwords.holding import held
from marginwords.knowing import knows, without
from marginwords.losing import last_row
from marginwords.spans import remarks
from marginwords.stands import stand
from tests import model
from tests.ledgers import laid, remark_ledger, rows_on, together
from tests.things import ODD, name_refusal, paper_refusal

A, B, C, D = [(1, "ann", k) for k in range(4)]
START = rows_on((), "ann", ("put", 0, "abcd"))
HUNG = laid(START, "hh", ("hang", 0, 2, "shut", "why"))
REMARK = (2, "hh")


def refusal(ledger, thing, remark=REMARK):
    return paper_refusal(lets_free, ledger, remark, thing)


def is_freed_by(ledger, remark, names):
    """Whether these NAMES are, by the words of [59], a rising tuple by which a REMARK is FREED."""
    inside = model.elders(ledger, remark) | {remark}
    left = tuple(change for change in ledger if change[0] not in names)
    return (
        list(names) == sorted(set(names))
        and not inside & set(names)
        and set(names) <= set(model.by_name(ledger))
        and all(not model.elders(ledger, change[0]) & set(names) for change in left)
        and model.stand(left, remark)[0] == "there"
    )


class Freed(unittest.TestCase):
    def told(self, ledger, many, *names, remark=REMARK):
        """One of these is told, and its paper is let by."""
        for _ in range(2):
            found = freed(ledger, remark)
            self.assertIs(type(found), tuple)
            self.assertTrue(is_freed_by(ledger, remark, found))
            self.assertEqual(len(found), many)
            if names:
                self.assertIn(found, names)
            paper = free_paper(ledger, remark)
            self.assertEqual(len(paper[0]), many)
            self.assertEqual(lets_free(ledger, remark, paper), many)
        self.assertEqual(many, len(next(model.freeing_sets(ledger, remark))))

    def test_there(self):
        self.told(HUNG, 0, ())
        self.told(laid(HUNG, "b", ("take", 1, 2)), 0, ())
        self.told(rows_on(HUNG, "b", ("take", 0, 2), ("back", (3, "b"))), 0, ())

    def test_lost_by_one_take(self):
        self.told(laid(HUNG, "b", ("take", 0, 4)), 1, ((3, "b"),))
        self.told(together(HUNG, laid(START, "b", ("take", 0, 4))), 1, ((2, "b"),))

    def test_with_all_that_know_it(self):
        ledger = rows_on(HUNG, "b", ("take", 0, 4), ("put", 0, "x"), ("put", 0, "y"))
        self.told(ledger, 3, ((3, "b"), (4, "b"), (5, "b")))
        side = laid(laid(HUNG, "b", ("take", 0, 4)), "cyr", ("put", 0, "x"))
        self.told(side, 2, ((3, "b"), (4, "cyr")))
        self.told(together(side, laid(HUNG, "dd", ("put", 0, "z"))), 2, ((3, "b"), (4, "cyr")))

    def test_by_several_of_which_the_cheapest_is_told(self):
        ledger = rows_on(HUNG, "b", ("take", 0, 1), ("put", 0, "x"), ("take", 1, 2))
        self.told(ledger, 1, ((5, "b"),))
        self.told(laid(ledger, "b", ("put", 0, "y")), 2, ((5, "b"), (6, "b")))
        two = together(rows_on(HUNG, "b", ("take", 0, 1), ("put", 0, "x")), laid(HUNG, "cyr", ("take", 1, 2)))
        self.told(two, 1, ((3, "cyr"),))
        even = together(laid(HUNG, "b", ("take", 0, 1)), laid(HUNG, "cyr", ("take", 1, 2)))
        self.told(even, 1, ((3, "b"),), ((3, "cyr"),))

    def test_one_sign_taken_by_several_branches(self):
        ledger = together(HUNG, *[laid(START, branch, ("take", 0, 4)) for branch in ("b", "cyr", "dd")])
        self.told(ledger, 3, ((2, "b"), (2, "cyr"), (2, "dd")))
        ledger = together(HUNG, laid(START, "b", ("take", 0, 1)), laid(START, "cyr", ("take", 0, 4)))
        self.told(ledger, 1, ((2, "cyr"),))

    def test_takes_that_are_known_to_it_cannot_go(self):
        # b is hidden by a take that is known: only a can stand again
        taken = laid(START, "ann", ("take", 1, 2))
        hung = laid(taken, "hh", ("hang", 0, 2, "shut", "why"))
        remark = (3, "hh")
        ledger = together(hung, rows_on(taken, "b", ("take", 0, 1), ("take", 0, 2), ("put", 0, "x")))
        self.assertEqual(held(ledger, remark), (A, B, C))
        self.assertEqual([last_row(ledger, sign) for sign in (A, B, C)], [((3, "b"),), ((2, "ann"),), ((4, "b"),)])
        self.told(ledger, 2, ((4, "b"), (5, "b")), remark=remark)
        self.assertEqual(free_paper(ledger, remark)[1][1], ("known", (2, "ann")))

    def test_a_last_row_with_known_and_strange_takes(self):
        taken = rows_on(START, "hh", ("put", 4, "x"), ("take", 1, 2))
        hung = laid(taken, "hh", ("hang", 0, 2, "shut", "why"))
        ledger = together(hung, laid(START, "b", ("take", 0, 3)))
        self.assertEqual(last_row(ledger, B), ((2, "b"), (3, "hh")))
        self.told(ledger, 1, ((2, "b"),), remark=(4, "hh"))
        self.assertEqual(free_paper(ledger, (4, "hh"))[1][1], ("known", (3, "hh")))

    def test_backs_among_the_touches(self):
        # (3, b) was put back: it stays; only the take behind the back goes
        ledger = rows_on(HUNG, "b", ("take", 0, 4), ("back", (3, "b")), ("take", 0, 4))
        self.told(ledger, 1, ((5, "b"),))
        side = together(ledger, laid(HUNG, "cyr", ("take", 0, 4)))
        self.told(side, 1, ((5, "b"),))
        late = together(ledger, rows_on(HUNG, "cyr", ("put", 4, "x"), ("put", 4, "y"), ("take", 0, 2)))
        self.told(late, 2, ((5, "b"), (5, "cyr")))

    def test_a_sign_that_was_put_behind_it(self):
        ledger = rows_on(HUNG, "b", ("put", 1, "x"), ("take", 0, 1), ("take", 1, 2), ("take", 0, 1))
        self.told(ledger, 1, ((6, "b"),))
        # what is left out takes the sign's own put with it never: that has the lesser name
        self.assertEqual(stand(without(ledger, ((6, "b"),)), REMARK), ("there", ((0, 1),)))

    def test_a_join_that_knows_the_take(self):
        left = laid(HUNG, "b", ("take", 0, 4))
        right = laid(HUNG, "cyr", ("put", 0, "x"))
        ledger = laid(together(left, right), "cyr", ("join",))
        self.told(ledger, 2, ((3, "b"), (4, "cyr")))

    def test_no_name(self):
        ledger = rows_on(HUNG, "hh", ("answer", REMARK, "no"), ("take", 0, 4), ("unsay", REMARK))
        for name in ((1, "ann"), (3, "hh"), (4, "hh"), (5, "hh"), (2, "b"), (10**199, "hh")):
            for ask in (freed, free_paper):
                self.assertEqual(name_refusal(ask, ledger, name), (name,))
                self.assertEqual(name_refusal(ask, (), name), (name,))
            for thing in (None, (), ((), ())):
                self.assertEqual(name_refusal(lets_free, ledger, name, thing), (name,))

    def test_as_few_as_going_through_all_sets_finds(self):
        found = set()
        for seed in range(700):
            ledger = remark_ledger(seed, 9)
            kept = repr(ledger)
            for remark in remarks(ledger):
                word = stand(ledger, remark)[0]
                if len(ledger) > 11 or word == "unsaid" or (word == "there" and seed % 5):
                    continue
                many = len(next(model.freeing_sets(ledger, remark)))
                found.add(many)
                self.told(ledger, many, remark=remark)
                self.assertEqual(many == 0, word == "there")
            self.assertEqual(repr(ledger), kept)
        self.assertGreaterEqual(found, {0, 1, 2, 3})


# a is lost by b, then b by cyr, who knows of that; dd's put does nothing to them
LOST = laid(together(laid(HUNG, "b", ("take", 0, 1)), laid(HUNG, "dd", ("put", 4, "x"))), "cyr", ("take", 0, 1))
LOST = laid(LOST, "ee", ("put", 0, "y"))
# (3, b) takes a; (4, cyr) takes b and knows (3, b), (3, dd); (5, ee) knows all
NAMES = ((4, "cyr"), (5, "ee"))
GO_A = ("go", (((3, "b"), (3, "b")), ((4, "cyr"), (3, "b")), ((5, "ee"), (3, "b"))))
GO_B = ("go", (((4, "cyr"), (4, "cyr")), ((5, "ee"), (4, "cyr"))))


class Checker(unittest.TestCase):
    def test_the_case(self):
        self.assertEqual(stand(LOST, REMARK), ("lost", (4, "cyr")))
        self.assertEqual(held(LOST, REMARK), (A, B))
        self.assertEqual([last_row(LOST, sign) for sign in (A, B)], [((3, "b"),), ((4, "cyr"),)])
        self.assertEqual([names for names in model.freeing_sets(LOST, REMARK)][0], NAMES)

    def test_right_papers(self):
        self.assertEqual(lets_free(LOST, REMARK, (NAMES, (GO_A, GO_B))), 2)
        self.assertIs(type(lets_free(LOST, REMARK, (NAMES, (GO_A, GO_B)))), int)
        for pairs in (GO_A[1][:2], GO_A[1][1:], GO_A[1][::2]):
            self.assertEqual(lets_free(LOST, REMARK, (NAMES, (("go", pairs), GO_B))), 2)
        self.assertEqual(lets_free(HUNG, REMARK, ((), (("go", ()), ("go", ())))), 0)

    def test_several_takes_of_one_row(self):
        ledger = together(HUNG, laid(START, "b", ("take", 0, 2)), laid(START, "cyr", ("take", 0, 2)))
        ledger = laid(ledger, "dd", ("put", 0, "x"))
        names = ((2, "b"), (2, "cyr"), (3, "dd"))
        for take in names[:2]:
            row = ("go", ((names[0], names[0]), (names[1], names[1]), (names[2], take)))
            self.assertEqual(lets_free(ledger, REMARK, (names, (row, row))), 3)
        row = ("go", ((names[0], names[0]), (names[1], names[0]), (names[2], names[0])))
        self.assertEqual(refusal(ledger, (names, (row, row))), ("take", 0))

    def test_shape(self):
        for thing in ODD:
            if thing != ((), ()):
                self.assertEqual(refusal(LOST, thing), ("shape", -1))
        for thing in ([NAMES, (GO_A, GO_B)], (NAMES,), (NAMES, (), ()), (list(NAMES), ()), (NAMES, [GO_A, GO_B])):
            self.assertEqual(refusal(LOST, thing), ("shape", -1))

    def test_name(self):
        odd = ODD + ((9, "b"), (4, "b"), (True, "ann"), [4, "cyr"], (4, "cyr", 0))
        for thing in odd:
            if repr(thing) != repr((1, "ann")):
                self.assertEqual(refusal(LOST, ((thing,), ())), ("name", 0))
                self.assertEqual(refusal(LOST, ((NAMES[0], thing), ())), ("name", 1))
        self.assertEqual(refusal(LOST, ((NAMES[0], NAMES[0]), ())), ("name", 1))
        self.assertEqual(refusal(LOST, (NAMES[::-1], ())), ("name", 1))
        self.assertEqual(refusal(LOST, ((REMARK, (1, "ann")), ())), ("name", 1))

    def test_known(self):
        self.assertEqual(refusal(LOST, (((1, "ann"),), ())), ("known", 0))
        self.assertEqual(refusal(LOST, ((REMARK,), ())), ("known", 0))
        side = together(LOST, laid(START, "aa", ("put", 0, "x")))
        self.assertEqual(refusal(side, (((2, "aa"), REMARK), ())), ("known", 1))

    def test_alone(self):
        self.assertEqual(refusal(LOST, (((4, "cyr"),), ())), ("alone", 0))
        self.assertEqual(refusal(LOST, (((3, "b"), (4, "cyr")), ())), ("alone", 0))
        self.assertEqual(refusal(LOST, (((3, "b"), (5, "ee")), ())), ("alone", 0))
        far = laid(HUNG, "b", ("put", 4, "x"))
        far = together(far, laid(far, "cyr", ("take", 0, 2)), laid(HUNG, "aa", ("put", 0, "y")))
        # (3, aa) is known to nobody, (3, b) to (4, cyr)
        self.assertEqual(refusal(far, (((3, "aa"), (3, "b")), ())), ("alone", 1))

    def test_away(self):
        self.assertEqual(refusal(LOST, ((), (GO_A, GO_B))), ("away", -1))
        self.assertEqual(refusal(LOST, (((5, "ee"),), (GO_A, GO_B))), ("away", -1))

    def test_rows(self):
        for rows in ((), (GO_A,), (GO_A, GO_B, GO_B)):
            self.assertEqual(refusal(LOST, (NAMES, rows)), ("rows", -1))

    def test_row(self):
        name = (4, "cyr")
        odd = ODD + (
            list(GO_B), ("known",), ("known", None), ("known", (True, "b")), ("known", list(name)), ("known", name, name),
            ("go",), ("go", None), ("go", list(GO_B[1])), ("go", name), ("go", (name,)), ("go", ((name,),)),
            ("go", ((name, name, name),)), ("go", ([name, name],)), ("go", ((name, None),)), ("go", ((None, name),)),
            ("go", (("x", name),)), ("go", (((True, "b"), name),)), ("gone", GO_B[1]), (None, name), ("known", ()),
            ("go", GO_B[1], ()), ("go", GO_B[1] + (None,)), (["go"], GO_B[1]),
        )
        for thing in odd:
            self.assertEqual(refusal(LOST, (NAMES, (thing, GO_B))), ("row", 0))
            self.assertEqual(refusal(LOST, (NAMES, (GO_A, thing))), ("row", 1))

    def test_take_of_known(self):
        for take in ((3, "b"), (1, "ann"), REMARK, (9, "zz"), (4, "cyr")):
            self.assertEqual(refusal(LOST, (NAMES, (("known", take), GO_B))), ("take", 0))
            self.assertEqual(refusal(LOST, (NAMES, (GO_A, ("known", take)))), ("take", 1))

    def test_known_rows(self):
        taken = rows_on(START, "hh", ("put", 4, "x"), ("take", 1, 2))
        ledger = together(laid(taken, "hh", ("hang", 0, 2, "shut", "why")), laid(START, "b", ("take", 0, 3)))
        remark = (4, "hh")
        go = ("go", (((2, "b"), (2, "b")),))
        self.assertEqual(lets_free(ledger, remark, (((2, "b"),), (go, ("known", (3, "hh")), go))), 1)
        # b's last row has the strange take of b, too: its pairs go as well
        self.assertEqual(lets_free(ledger, remark, (((2, "b"),), (go, go, go))), 1)
        self.assertEqual(refusal(ledger, (((2, "b"),), (go, ("known", (2, "b")), go)), remark), ("take", 1))
        # a pair of a take that is known does as well: all that know it know it still
        both = ("go", (((2, "b"), (2, "b")), ((3, "hh"), (3, "hh")), ((4, "hh"), (3, "hh"))))
        self.assertEqual(lets_free(ledger, remark, (((2, "b"),), (go, both, go))), 1)

    def test_rise(self):
        pairs = GO_A[1]
        for wrong in (pairs[::-1], (pairs[0], pairs[0]), (pairs[1], pairs[0], pairs[2]), (pairs[0], pairs[2], pairs[1])):
            self.assertEqual(refusal(LOST, (NAMES, (("go", wrong), GO_B))), ("rise", 0))
        self.assertEqual(refusal(LOST, (NAMES, (GO_A, ("go", GO_B[1][::-1])))), ("rise", 1))

    def test_take_of_going(self):
        for pair in (((3, "b"), (4, "cyr")), ((3, "dd"), (3, "b")), ((4, "cyr"), (4, "cyr")), ((9, "zz"), (3, "b")),
                     ((3, "b"), (9, "zz")), ((9, "zz"), (9, "zz")), ((1, "ann"), (3, "b")), ((4, "cyr"), (3, "dd"))):
            self.assertEqual(refusal(LOST, (NAMES, (("go", (pair,)), GO_B))), ("take", 0))
        self.assertEqual(refusal(LOST, (NAMES, (GO_A, ("go", GO_A[1])))), ("take", 1))

    def test_few(self):
        self.assertEqual(refusal(LOST, (NAMES, (("go", GO_A[1][:1]), GO_B))), ("few", 0))
        self.assertEqual(refusal(LOST, (NAMES, (GO_A, ("go", GO_B[1][1:])))), ("few", 1))
        self.assertEqual(refusal(LOST, (NAMES, (GO_A, ("go", ())))), ("few", 1))
        # more than has to go: no row of b is so long
        more = ((3, "b"), (4, "cyr"), (5, "ee"))
        self.assertEqual(refusal(LOST, (more, (GO_A, GO_B))), ("few", 1))
        # of one that is there nothing has to go
        ledger = laid(HUNG, "b", ("put", 0, "x"))
        self.assertEqual(refusal(ledger, (((3, "b"),), (("go", ()), ("go", ())))), ("few", 0))

    def test_two_due_at_once(self):
        self.assertEqual(refusal(LOST, ([None], None)), ("shape", -1))
        self.assertEqual(refusal(LOST, (((1, "ann"), None), ())), ("name", 1))
        self.assertEqual(refusal(LOST, (((1, "ann"), (3, "b")), ())), ("known", 0))
        self.assertEqual(refusal(LOST, (((1, "ann"), (4, "cyr")), ())), ("known", 0))
        self.assertEqual(refusal(LOST, (((3, "dd"),), ())), ("alone", 0))
        self.assertEqual(refusal(LOST, ((), ())), ("away", -1))
        self.assertEqual(refusal(LOST, (NAMES, (None,))), ("rows", -1))
        self.assertEqual(refusal(LOST, (NAMES, (("go", ()), None))), ("row", 1))
        self.assertEqual(refusal(LOST, (NAMES, (("known", (3, "b")), ("go", ())))), ("take", 0))
        wrong = ("go", (((9, "zz"), (9, "zz")), ((8, "zz"), (3, "b"))))
        self.assertEqual(refusal(LOST, (NAMES, (wrong, ("known", (9, "zz"))))), ("rise", 0))
        self.assertEqual(refusal(LOST, (NAMES, (("go", (((3, "b"), (4, "cyr")),)), GO_B))), ("take", 0))
        self.assertEqual(refusal(LOST, (NAMES, (("go", ()), ("known", (9, "zz"))))), ("few", 0))

    def test_of_one_that_is_unsaid(self):
        ledger = laid(LOST, "hh", ("unsay", REMARK))
        names = NAMES + ((6, "hh"),)
        self.assertEqual(refusal(ledger, (NAMES, (GO_A, GO_B))), ("alone", 0))
        go_a = ("go", GO_A[1] + (((6, "hh"), (3, "b")),))
        go_b = ("go", GO_B[1] + (((6, "hh"), (4, "cyr")),))
        self.assertEqual(lets_free(ledger, REMARK, (names, (go_a, go_b))), 3)
        # an unsay that knows nothing of it stays where it isn't named: it is away
        side = together(LOST, laid(HUNG, "hh", ("unsay", REMARK)))
        self.assertEqual(refusal(side, (NAMES, (GO_A, GO_B))), ("away", -1))
        more = ((3, "hh"),) + NAMES
        self.assertEqual(refusal(side, (more, (GO_A, GO_B))), ("few", 1))

    def test_papers_of_others(self):
        ledger = laid(LOST, "ff", ("put", 0, "z"))
        self.assertEqual(refusal(ledger, free_paper(LOST, REMARK)), ("alone", 0))
        self.assertEqual(refusal(HUNG, free_paper(LOST, REMARK)), ("name", 0))
        self.assertEqual(refusal(LOST, free_paper(HUNG, REMARK)), ("away", -1))

    def test_what_is_handed_in_stays(self):
        thing = (NAMES, (GO_A, ("go", [1, [2]])))
        before = repr((LOST, thing))
        self.assertEqual(refusal(LOST, thing), ("row", 1))
        self.assertEqual(repr((LOST, thing)), before)

    def test_what_is_let_by_is_so(self):
        chance = random.Random(4)
        let = 0
        for seed in range(500):
            ledger = remark_ledger(seed, 9)
            for remark in remarks(ledger):
                if stand(ledger, remark)[0] != "lost" or len(ledger) > 11:
                    continue
                fewest = len(next(model.freeing_sets(ledger, remark)))
                rows = free_paper(ledger, remark)[1]
                for names in model.freeing_sets(ledger, remark):
                    told = refusal(ledger, (names, rows), remark)
                    self.assertEqual(told is None, len(names) == fewest)
                    let += told is None
                k = chance.randrange(len(rows))
                name = chance.choice(ledger)[0]
                spoilt = rows[:k] + (("known", name),) + rows[k + 1 :]
                fine = name in last_row(ledger, held(ledger, remark)[k]) and knows(ledger, remark, name)
                told = refusal(ledger, (freed(ledger, remark), spoilt), remark)
                self.assertEqual(told, None if fine else ("take", k))
        self.assertGreater(let, 30)


if __name__ == "__main__":
    unittest.main()
