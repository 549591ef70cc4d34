"""Points [15], [16]: LEDGERS joined, and what is common to them."""

import unittest

from marginwords.errors import NoJoin
from marginwords.joining import common, is_part, joined
from tests import model
from tests.ledgers import any_ledger, laid, part_of, rows_on, together

START = rows_on((), "ann", ("put", 0, "abc"))
LEFT = rows_on(START, "b", ("put", 3, "d"), ("take", 0, 1))
RIGHT = rows_on(START, "cyr", ("move", 0, 1, 3))


def refusal(one, other):
    try:
        joined(one, other)
    except NoJoin as wrong:
        return wrong.name, wrong.word
    return None


class Joined(unittest.TestCase):
    def test_all_changes_of_both(self):
        whole = START + (LEFT[1], RIGHT[1], LEFT[2])
        self.assertEqual(joined(LEFT, RIGHT), whole)
        self.assertEqual(joined(RIGHT, LEFT), whole)
        self.assertIs(type(joined(LEFT, RIGHT)), tuple)

    def test_with_nothing_and_with_itself(self):
        self.assertEqual(joined((), ()), ())
        for ledger in (START, LEFT, RIGHT, together(LEFT, RIGHT)):
            self.assertEqual(joined((), ledger), ledger)
            self.assertEqual(joined(ledger, ()), ledger)
            self.assertEqual(joined(ledger, ledger), ledger)
            self.assertEqual(joined(ledger, START), ledger)

    def test_unlike(self):
        for deed, hand in ((("put", 3, "e"), "ann"), (("put", 3, "d"), "bob"), (("put", 2, "d"), "ann")):
            other = laid(START, "b", deed, hand)
            self.assertEqual(refusal(LEFT, other), ((2, "b"), "unlike"))
            self.assertEqual(refusal(other, LEFT), ((2, "b"), "unlike"))

    def test_unlike_by_base_alone(self):
        one = rows_on(START, "dd", ("put", 0, "a"))
        other = rows_on(rows_on((), "eve", ("put", 0, "abc")), "dd", ("put", 0, "a"))
        self.assertEqual(refusal(one, other), ((2, "dd"), "unlike"))

    def test_branch(self):
        one = rows_on(START, "b", ("put", 0, "d"))
        other = laid(laid(START, "cyr", ("put", 0, "d")), "b", ("put", 0, "e"))
        self.assertEqual(one[-1][0], (2, "b"))
        self.assertEqual(other[-1][0], (3, "b"))
        self.assertEqual(refusal(one, other), ((3, "b"), "branch"))
        self.assertEqual(refusal(other, one), ((3, "b"), "branch"))

    def test_branch_by_one_far_behind(self):
        one = rows_on(START, "b", ("put", 0, "d"))
        other = rows_on(laid(START, "cyr", ("put", 0, "d")), "ann", ("put", 0, "e"))
        other = rows_on(other, "b", ("put", 0, "e"), ("put", 0, "f"))
        self.assertEqual(refusal(one, other), ((4, "b"), "branch"))

    def test_the_least_name_of_several(self):
        one = together(rows_on((), "a", ("put", 0, "x")), rows_on((), "z", ("put", 0, "x"), ("put", 0, "x")))
        other = together(rows_on((), "a", ("put", 0, "y")), rows_on((), "z", ("put", 0, "y")))
        self.assertEqual(refusal(one, other), ((1, "a"), "unlike"))

    def test_branch_at_a_lesser_name_than_unlike(self):
        eve = rows_on((), "eve", ("put", 0, "x"), ("put", 0, "x"))
        one = together(rows_on(START, "b", ("put", 0, "d")), rows_on(eve, "eve", ("put", 0, "x")))
        other = laid(laid(START, "cyr", ("put", 0, "d")), "b", ("put", 0, "e"))
        other = together(other, rows_on(eve, "eve", ("put", 0, "y")))
        self.assertEqual(refusal(one, other), ((3, "b"), "branch"))
        self.assertEqual(refusal(other, one), ((3, "b"), "branch"))

    def test_unlike_goes_ahead_of_branch_at_one_name(self):
        one = rows_on(START, "b", ("put", 0, "d"), ("put", 0, "x"))
        other = laid(laid(START, "cyr", ("put", 0, "d")), "b", ("put", 0, "e"))
        self.assertEqual(one[-1][0], other[-1][0])
        self.assertEqual(refusal(one, other), ((3, "b"), "unlike"))
        self.assertEqual(refusal(other, one), ((3, "b"), "unlike"))

    def test_by_the_words_of_the_document(self):
        told = set()
        for one, other in pairs():
            wanted = model.join_refusal(one, other)
            told.add(wanted and wanted[1])
            self.assertEqual(refusal(one, other), wanted)
            self.assertEqual(refusal(other, one), wanted)
            if wanted is None:
                self.assertEqual(joined(one, other), together(one, other))
                self.assertEqual(joined(one, other), joined(other, one))
        self.assertEqual(told, {None, "unlike", "branch"})


def pairs():
    """Pairs of LEDGERS: parts of one, and such that went on from a part by themselves."""
    for seed in range(60):
        ledger = any_ledger(seed)
        one, other = part_of(seed, ledger), part_of(seed + 1000, ledger)
        yield one, other
        yield ledger, one
        yield one, rows_on(other, "b" if seed & 1 else "ann", ("put", 0, "z"), ("put", 0, "z"))
        yield rows_on(one, "b", ("put", 0, "y")), rows_on(other, "b", ("put", 0, "z"))
        yield ledger, any_ledger(seed + 1)


class Common(unittest.TestCase):
    def test_what_can_be_joined(self):
        self.assertEqual(common(LEFT, RIGHT), START)
        self.assertEqual(common(LEFT, together(LEFT, RIGHT)), LEFT)
        self.assertEqual(common(LEFT, ()), ())
        self.assertEqual(common((), LEFT), ())
        self.assertEqual(common(LEFT, LEFT), LEFT)

    def test_what_cannot_be_joined(self):
        other = rows_on(START, "b", ("put", 3, "e"), ("take", 0, 1))
        self.assertEqual(common(LEFT, other), START)

    def test_alike_but_it_knows_one_that_is_not(self):
        other = rows_on(START, "b", ("put", 3, "e"), ("take", 0, 1))
        self.assertEqual(LEFT[2], other[2])
        self.assertNotIn(LEFT[2], common(LEFT, other))
        self.assertEqual(common(rows_on(LEFT, "ann", ("put", 0, "f")), rows_on(other, "ann", ("put", 0, "f"))), START)

    def test_is_part(self):
        whole = together(LEFT, RIGHT)
        for one, other, wanted in (
            ((), (), True), ((), LEFT, True), (LEFT, (), False), (START, LEFT, True), (LEFT, START, False),
            (LEFT, LEFT, True), (LEFT, RIGHT, False), (LEFT, whole, True), (RIGHT, whole, True), (whole, LEFT, False),
        ):
            self.assertIs(is_part(one, other), wanted)
        self.assertIs(is_part(LEFT[:2], rows_on(START, "b", ("put", 3, "d"))), True)
        self.assertIs(is_part(LEFT[:2], rows_on(START, "b", ("put", 3, "d"), hand="bob")), False)
        self.assertIs(is_part(LEFT[:2], rows_on(START, "b", ("put", 3, "e"))), False)

    def test_by_the_words_of_the_document(self):
        for one, other in pairs():
            ours, theirs = model.by_name(one), model.by_name(other)
            alike = {name for name in ours if theirs.get(name) == ours[name]}
            wanted = tuple(c for c in one if c[0] in alike and model.elders(one, c[0]) <= alike)
            self.assertEqual(common(one, other), wanted)
            self.assertEqual(common(other, one), wanted)
            self.assertIs(is_part(wanted, one) and is_part(wanted, other), True)
            self.assertIs(is_part(one, other), len(alike) == len(one))
            if refusal(one, other) is None:
                whole = joined(one, other)
                self.assertIs(is_part(one, whole) and is_part(other, whole), True)

    def test_a_second_question_is_answered_likewise(self):
        for one, other in list(pairs())[:40]:
            kept = repr((one, other))
            self.assertEqual(common(one, other), common(one, other))
            self.assertEqual(refusal(one, other), refusal(one, other))
            self.assertEqual(is_part(one, other), is_part(one, other))
            self.assertEqual(repr((one, other)), kept)


if __name__ == "__main__":
    unittest.main()
