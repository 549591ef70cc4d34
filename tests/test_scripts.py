"""Points [55], [56], [57], [58]: STEPS that make of one SIGN ROW another one."""

import itertools
import random
import unittest

from marginwords.keeping import kept
from marginwords.scripts import applied, fewest_steps, shortest_steps
from marginwords.showing import moves_of
from marginwords.texts import signs
from tests import rowmodel
from tests.ledgers import any_ledger, part_of, remark_ledger
from tests.things import ODD, paper_refusal

A, B, C, D, E, F = [(1, "ann", k) for k in range(6)]
ROW = (A, B, C)
FORTY = tuple((1 + k // 12, "b" if k % 3 else "ann", k % 12) for k in range(40))


def refusal(row, thing):
    return paper_refusal(applied, row, thing)


class Applied(unittest.TestCase):
    def test_no_step(self):
        for row in ((), ROW):
            self.assertEqual(applied(row, []), row)
            self.assertIs(type(applied(row, [])), tuple)

    def test_out(self):
        self.assertEqual([applied(ROW, [("out", p)]) for p in range(3)], [(B, C), (A, C), (A, B)])
        self.assertEqual(applied((A,), [("out", 0)]), ())
        for p in (-1, 3, 10**199, -(10**199), True, False, None, "0", (0,)):
            self.assertEqual(refusal(ROW, [("out", p)]), ("step", 0))
        self.assertEqual(refusal((), [("out", 0)]), ("step", 0))

    def test_to(self):
        self.assertEqual(applied(ROW, [("to", 0, 1)]), (B, A, C))
        self.assertEqual(applied(ROW, [("to", 0, 2)]), (B, C, A))
        self.assertEqual(applied(ROW, [("to", 1, 0)]), (B, A, C))
        self.assertEqual(applied(ROW, [("to", 1, 2)]), (A, C, B))
        self.assertEqual(applied(ROW, [("to", 2, 0)]), (C, A, B))
        self.assertEqual(applied(ROW, [("to", 2, 1)]), (A, C, B))
        for p in range(3):
            self.assertEqual(refusal(ROW, [("to", p, p)]), ("step", 0))
        for p in (-1, 3, 10**199, True, False, None, "0", (0,)):
            self.assertEqual(refusal(ROW, [("to", p, 2)]), ("step", 0))
            self.assertEqual(refusal(ROW, [("to", 2, p)]), ("step", 0))
        self.assertEqual(refusal((A,), [("to", 0, 0)]), ("step", 0))
        self.assertEqual(refusal((), [("to", 0, 1)]), ("step", 0))

    def test_in(self):
        self.assertEqual(applied((), [("in", 0, A)]), (A,))
        rows = [applied(ROW, [("in", p, D)]) for p in range(4)]
        self.assertEqual(rows, [(D, A, B, C), (A, D, B, C), (A, B, D, C), (A, B, C, D)])
        for p in (-1, 4, 10**199, True, False, None, "0", (0,)):
            self.assertEqual(refusal(ROW, [("in", p, D)]), ("step", 0))
        self.assertEqual(refusal((), [("in", 1, A)]), ("step", 0))

    def test_in_of_what_is_there_or_no_sign(self):
        for sign in ROW + ((1, "ann", True), (True, "ann", 3), (1, "ann", -1), (0, "ann", 3), (1, "Ann", 3), (1, "", 3),
                           [1, "ann", 3], (1, "ann"), (1, "ann", 3, 3), (1, "ann", "3"), (1, "ann", None), ()):
            self.assertEqual(refusal(ROW, [("in", 0, sign)]), ("step", 0))
        great = (10**199, "zzzzzzzz", 10**199)
        self.assertEqual(applied(ROW, [("in", 3, great)]), ROW + (great,))

    def test_each_to_what_those_ahead_made(self):
        self.assertEqual(applied(ROW, [("out", 0), ("in", 2, A), ("to", 2, 1)]), (B, A, C))
        self.assertEqual(applied(ROW, [("in", 3, D), ("out", 3)]), ROW)
        # can be done only behind another one
        self.assertEqual(refusal(ROW, [("out", 3)]), ("step", 0))
        self.assertEqual(applied(ROW, [("in", 0, D), ("out", 3)]), (D, A, B))
        self.assertEqual(applied(ROW, [("out", 1), ("in", 0, B)]), (B, A, C))
        self.assertEqual(refusal(ROW, [("in", 0, B), ("out", 1)]), ("step", 0))
        # can't be done any more
        self.assertEqual(refusal(ROW, [("out", 2), ("out", 2)]), ("step", 1))
        self.assertEqual(refusal(ROW, [("in", 0, D), ("in", 0, D)]), ("step", 1))
        self.assertEqual(refusal(ROW, [("out", 0), ("out", 0), ("to", 0, 1)]), ("step", 2))

    def test_the_first_such(self):
        self.assertEqual(refusal(ROW, [("out", 0), None, ("out", 9)]), ("step", 1))
        self.assertEqual(refusal(ROW, [("out", 0), ("out", 9), None]), ("step", 1))

    def test_no_list(self):
        for thing in ODD:
            if not isinstance(thing, list):
                self.assertEqual(refusal(ROW, thing), ("shape", -1))
        self.assertEqual(refusal(ROW, (("out", 0),)), ("shape", -1))

    def test_no_step_at_all(self):
        odd = ODD + (["out", 0], ("out",), ("out", 0, 1), ("to", 0), ("to", 0, 1, 2), ("in", 0), ("in", 0, D, D), ("OUT", 0),
                     ("up", 0), (None, 0), (("out",), 0), ("to", 0, D), ("in", D, 0), "out", ("out", [0]))
        for thing in odd:
            self.assertEqual(refusal(ROW, [thing]), ("step", 0))
            self.assertEqual(refusal(ROW, [("out", 0), thing]), ("step", 1))

    def test_what_is_handed_in_stays(self):
        steps = [("out", 0), ("in", 2, A), None, []]
        before = repr((ROW, steps))
        self.assertEqual(refusal(ROW, steps), ("step", 2))
        self.assertEqual(repr((ROW, steps)), before)
        self.assertEqual(applied(ROW, steps[:2]), applied(ROW, steps[:2]))


class Shortest(unittest.TestCase):
    def told(self, one, other, many):
        for _ in range(2):
            steps = shortest_steps(one, other)
            self.assertIs(type(steps), list)
            self.assertEqual(applied(one, steps), other)
            self.assertEqual(len(steps), many)
            self.assertEqual(fewest_steps(one, other), many)
            self.assertIs(type(fewest_steps(one, other)), int)
            # the list is the asker's own
            steps.append("x")

    def test_none(self):
        for row in ((), (A,), ROW, FORTY):
            self.told(row, row, 0)
            self.assertEqual(shortest_steps(row, row), [])

    def test_of_and_to_nothing(self):
        self.told((), ROW, 3)
        self.told(ROW, (), 3)
        self.told(FORTY, (), 40)
        self.told((), FORTY, 40)

    def test_without_a_common_sign(self):
        self.told((A, B), (C, D, E), 5)

    def test_one_moved(self):
        self.told((A, B, C, D), (D, A, B, C), 1)
        self.told((A, B, C, D), (B, C, D, A), 1)
        self.told((A, B), (B, A), 1)

    def test_turned_about(self):
        self.told(ROW, ROW[::-1], 2)
        self.told(FORTY, FORTY[::-1], 39)

    def test_blocks_moved(self):
        self.told(FORTY, FORTY[30:] + FORTY[10:30] + FORTY[:10], 20)
        self.told((A, B, C, D, E), (D, E, A, B, C), 2)

    def test_each_kind_at_once(self):
        self.told((A, B, C, D), (D, E, A, C, F), 4)
        self.told((E, A, B), (B, F, A), 3)

    def test_as_few_as_going_through_all_of_them_finds(self):
        whole = (A, B, C, D)
        # E is in none of them: that it can come in, too, helps nobody
        for one in ((), (A,), (A, B), (B, A, C), (A, B, C, D)):
            found = rowmodel.distances(one, whole + (E,))
            for many in range(5):
                for other in itertools.permutations(whole, many):
                    self.told(one, other, found[other])

    def test_by_the_length_of_what_is_kept(self):
        chance = random.Random(3)
        for _ in range(60):
            one = tuple(chance.sample(FORTY, chance.randint(0, 40)))
            other = tuple(chance.sample(FORTY, chance.randint(0, 40)))
            common = set(one) & set(other)
            alone = len(set(one) - common) + len(set(other) - common)
            self.told(one, other, alone + len(common) - len(kept(one, other)))

    def test_texts_of_ledgers(self):
        for seed in range(60):
            ledger = any_ledger(seed)
            kept_as = repr(ledger)
            one, other = signs(part_of(seed, ledger)), signs(ledger)
            self.told(one, other, len(one) + len(other) - len(set(one) & set(other)) - len(kept(one, other)))
            self.assertEqual(repr(ledger), kept_as)


class Parts(unittest.TestCase):
    def test_signs_that_no_strange_move_moved_are_kept(self):
        many = moved = 0
        for seed in range(200):
            ledger = remark_ledger(seed)
            for part in (part_of(seed, ledger), part_of(seed + 500, ledger)):
                one, other = signs(part), signs(ledger)
                stays = {sign for sign in one if sign in other and moves_of(part, sign) == moves_of(ledger, sign)}
                moved += len(stays) < len(set(one) & set(other))
                row = tuple(sign for sign in one if sign in stays)
                many += len(row)
                self.assertTrue(rowmodel.is_kept(one, other, row))
                self.assertGreaterEqual(len(kept(one, other)), len(row))
        self.assertGreater(many, 500)
        self.assertGreater(moved, 30)


if __name__ == "__main__":
    unittest.main()
