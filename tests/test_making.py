"""Points [27], [28], [29]: CHANGES made and laid."""

import random
import unittest

from marginwords.errors import NoChange
from marginwords.joining import is_part
from marginwords.knowing import known
from marginwords.making import laid_on, made
from marginwords.texts import signs, text
from tests import model
from tests.ledgers import fitting_deeds, laid, part_of, remark_ledger, rows_on, together
from tests.things import ODD, paper_refusal

START = rows_on((), "ann", ("put", 0, "abcd"))
TWO = together(laid(START, "b", ("put", 1, "xy")), laid(START, "cyr", ("take", 0, 1)))
HUNG = laid(START, "ann", ("hang", 1, 3, "shut", "why"), "ann")
REMARK = (2, "ann")


def refusal(*things):
    """The word of the NoChange with which it is refused, None where it is made."""
    try:
        made(*things)
    except NoChange as wrong:
        return wrong.word
    return None


class Made(unittest.TestCase):
    def test_on_the_empty_ledger(self):
        self.assertEqual(made((), "b", "ann", ("put", 0, "ab")), ((1, "b"), "ann", (), ("put", 0, "ab")))

    def test_each_deed(self):
        for ledger, deed in (
            (START, ("put", 4, "x y")), (START, ("take", 0, 4)), (START, ("move", 0, 2, 4)),
            (START, ("hang", 0, 1, "wide", "so")), (HUNG, ("answer", REMARK, "no")), (HUNG, ("settle", REMARK)),
            (laid(HUNG, "ann", ("settle", REMARK)), ("open", REMARK)), (HUNG, ("unsay", REMARK)),
            (laid(START, "ann", ("take", 0, 2)), ("back", (2, "ann"))), (TWO, ("join",)),
        ):
            change = made(ledger, "zz", "ann", deed)
            self.assertEqual(change, ((1 + ledger[-1][0][0], "zz"), "ann", model.tops(ledger), deed))
            self.assertEqual([type(part) for part in change], [tuple, str, tuple, tuple])

    def test_of_several_tops(self):
        for branch in ("b", "cyr", "ann", "new"):
            change = made(TWO, branch, "bob", ("put", 0, "q"))
            self.assertEqual(change, ((3, branch), "bob", ((2, "b"), (2, "cyr")), ("put", 0, "q")))
        uneven = together(laid((), "dd", ("put", 0, "q")), TWO)
        self.assertEqual(made(uneven, "b", "bob", ("join",))[2], ((1, "dd"), (2, "b"), (2, "cyr")))

    def test_refusals(self):
        for things, word in (
            (("B", "ann", ("put", 0, "x")), "branch"), (("", "ann", ("put", 0, "x")), "branch"),
            (("ninewords", "ann", ("put", 0, "x")), "branch"), (("b", "A", ("put", 0, "x")), "hand"),
            (("b", "ann", ("put", 0, "X")), "deed"), (("b", "ann", ("put", 0)), "deed"),
            (("b", "ann", ["put", 0, "x"]), "deed"), (("b", "ann", ("put", True, "x")), "deed"),
            (("b", "ann", ("put", 5, "x")), "place"), (("b", "ann", ("put", -1, "x")), "place"),
            (("b", "ann", ("take", 0, 10**199)), "place"), (("b", "ann", ("back", (1, "ann"))), "name"),
            (("b", "ann", ("join",)), "join"), (("b", "ann", ("settle", (True, "ann"))), "deed"),
        ):
            self.assertEqual(refusal(START, *things), word, things)
        self.assertEqual(refusal(HUNG, "b", "bob", ("unsay", REMARK)), "hand")
        self.assertEqual(refusal(HUNG, "b", "bob", ("open", REMARK)), "open")
        self.assertEqual(refusal(laid(HUNG, "b", ("unsay", REMARK)), "b", "ann", ("unsay", REMARK)), "gone")

    def test_the_first_refusal_goes(self):
        self.assertEqual(refusal(START, None, None, None), "branch")
        self.assertEqual(refusal(START, "b", None, None), "hand")
        self.assertEqual(refusal(START, "b", "ann", None), "deed")
        self.assertEqual(refusal(START, "B", "ann", ("put", 9, "x")), "branch")
        self.assertEqual(refusal(START, "b", "Ann", ("put", 9, "x")), "hand")

    def test_odd_things(self):
        for odd in ODD:
            kept = repr(odd)
            if odd not in ("a", "shape"):
                self.assertEqual(refusal(START, odd, "ann", ("put", 0, "x")), "branch")
                self.assertEqual(refusal(START, "b", odd, ("put", 0, "x")), "hand")
            if repr(odd) != repr(("put", 0, "a")):
                self.assertEqual(refusal(START, "b", "ann", odd), "deed")
            self.assertEqual(repr(odd), kept)


class LaidOn(unittest.TestCase):
    def test_behind_all(self):
        change = made(TWO, "b", "bob", ("join",))
        self.assertEqual(laid_on(TWO, change), TWO + (change,))
        self.assertEqual(laid_on((), START[0]), START)

    def test_between_others(self):
        left = rows_on(START, "b", ("put", 0, "x"), ("put", 0, "y"))
        change = made(START, "cyr", "ann", ("take", 0, 4))
        self.assertEqual(laid_on(left, change), left[:2] + (change,) + left[2:])
        first = made((), "a", "ann", ("put", 0, "x"))
        self.assertEqual(laid_on(left, first), (first,) + left)

    def test_refusals(self):
        for change, told in (
            (TWO[1], ("rise", 2)),
            (((2, "b"), "bob", ((1, "ann"),), ("put", 0, "other")), ("rise", 2)),
            # of a name that is there it stands behind: so what else is wrong with it is not told
            (((2, "b"), "bob", (), ("put", 0, "x")), ("rise", 2)),
            (((2, "b"), "bob", ((2, "dd"),), ("put", 9, "x")), ("rise", 2)),
            (((2, "cyr"), "bob", ((1, "ann"),), ("join",)), ("rise", 3)),
            (((3, "b"), "bob", ((2, "b"), (2, "dd")), ("join",)), ("base", 3)),
            (((2, "a"), "bob", ((1, "zz"),), ("put", 0, "x")), ("base", 1)),
            (((2, "bb"), "bob", ((2, "b"),), ("put", 0, "x")), ("count", 2)),
            (((3, "b"), "bob", ((2, "cyr"),), ("put", 0, "x")), ("branch", 3)),
            (((3, "b"), "bob", ((2, "b"),), ("take", 0, 7)), ("deed", 3)),
            (((3, "b"), "bob", ((2, "b"),), ("take", 0, 6)), None),
            (((2, "bb"), "bob", ((1, "ann"),), ("join",)), ("deed", 2)),
        ):
            self.assertEqual(paper_refusal(laid_on, TWO, change), told, change)

    def test_a_later_one_of_its_branch_that_does_not_know_it(self):
        change = ((1, "cyr"), "ann", (), ("put", 0, "q"))
        self.assertEqual(paper_refusal(laid_on, TWO, change), ("branch", 3))
        self.assertIsNone(paper_refusal(laid_on, TWO[:2], change))

    def test_odd_things(self):
        for ledger in ((), START, TWO):
            for odd in ODD:
                kept = repr(odd)
                self.assertEqual(paper_refusal(laid_on, ledger, odd), ("change", len(ledger)))
                self.assertEqual(repr(odd), kept)
            self.assertEqual(paper_refusal(laid_on, ledger, list(START[0])), ("change", len(ledger)))
            odd = ((True, "a"), "ann", (), ("put", 0, "x"))
            self.assertEqual(paper_refusal(laid_on, ledger, odd), ("change", len(ledger)))


def done(ledger, change):
    """The SIGNS of the TEXT that [4] says the DEED makes."""
    name, _, _, deed = change
    old = model.text(ledger)
    if deed[0] == "put":
        return old[: deed[1]] + tuple((*name, k) for k in range(len(deed[2]))) + old[deed[1] :]
    if deed[0] == "take":
        return old[: deed[1]] + old[deed[2] :]
    if deed[0] == "move":
        _, i, j, q = deed
        left = [sign for sign in old if sign not in old[i:j]]
        at = q if q < i else q - (j - i)
        return (*left[:at], *old[i:j], *left[at:])
    if deed[0] == "back":
        shown = {*old, *model.taken(ledger, deed[1])}
        slots = {model.slot_of(ledger, sign): sign for sign in shown}
        return tuple(slots[slot] for slot in model.order(ledger) if slot in slots)
    return old


class ManyLedgers(unittest.TestCase):
    def test_what_is_made_comes_last_and_does_what_it_says(self):
        chance = random.Random(3)
        words = set()
        for seed in range(150):
            ledger = remark_ledger(seed)
            kept = repr(ledger)
            hand = chance.choice(("ann", "bob"))
            deeds = fitting_deeds(chance, ledger, hand) + [("join",)] * (len(model.tops(ledger)) > 1)
            for deed in deeds:
                change = made(ledger, chance.choice(("ann", "b", "new")), hand, deed)
                whole = laid_on(ledger, change)
                words.add(deed[0])
                self.assertEqual(whole, ledger + (change,))
                self.assertEqual(known(whole, change[0]), ledger)
                self.assertEqual(signs(whole), done(ledger, change))
                self.assertEqual(text(whole), model.letters(whole))
                self.assertEqual(made(ledger, change[0][1], hand, deed), change)
            self.assertEqual(repr(ledger), kept)
        self.assertEqual(len(words), 10)

    def test_it_can_be_laid_on_another_ledger_that_has_what_it_knows(self):
        chance = random.Random(4)
        for seed in range(150):
            ledger = remark_ledger(seed)
            part = part_of(seed, ledger)
            deed = chance.choice(fitting_deeds(chance, part))
            change = made(part, "new", "ann", deed)
            whole = laid_on(ledger, change)
            self.assertEqual(whole, tuple(sorted(ledger + (change,))))
            self.assertTrue(is_part(ledger, whole))
            self.assertEqual(known(whole, change[0]), part)
            branch = chance.choice(ledger)[0][1]
            stranger = any(each[0][1] == branch and each not in part for each in ledger)
            told = paper_refusal(laid_on, ledger, made(part, branch, "ann", deed))
            if stranger:
                self.assertIn(told[0], ("rise", "branch"))
            else:
                self.assertIsNone(told)


if __name__ == "__main__":
    unittest.main()
