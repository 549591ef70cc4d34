"""Points [80], [81], [84]: CHANGES, LEDGERS and STANDS written as texts."""

import random
import unittest

from marginwords.lines import shown_change, shown_ledger, shown_stand
from marginwords.readings import read_change, read_ledger
from marginwords.spans import remarks
from marginwords.stands import stand
from tests.ledgers import any_ledger, remark_ledger

NAME = (2, "ann")
GREAT = 10**199 + 7
WRITTEN = (
    (((1, "ann"), "ann", (), ("put", 0, "abc")), "1.ann ann - put 0 abc"),
    ((NAME, "bob", ((1, "ann"),), ("put", 0, "he says")), "2.ann bob 1.ann put 0 he_says"),
    ((NAME, "bob", ((1, "ann"),), ("take", 2, 5)), "2.ann bob 1.ann take 2 5"),
    ((NAME, "bob", ((1, "ann"),), ("move", 0, 2, 4)), "2.ann bob 1.ann move 0 2 4"),
    ((NAME, "bob", ((1, "ann"),), ("back", (3, "ann"))), "2.ann bob 1.ann back 3.ann"),
    ((NAME, "bob", ((1, "ann"),), ("hang", 1, 4, "shut", "is it so")), "2.ann bob 1.ann hang 1 4 shut is_it_so"),
    ((NAME, "bob", ((1, "ann"),), ("hang", 1, 4, "wide", "w")), "2.ann bob 1.ann hang 1 4 wide w"),
    ((NAME, "bob", ((1, "ann"),), ("answer", (3, "ann"), "no")), "2.ann bob 1.ann answer 3.ann no"),
    ((NAME, "bob", ((1, "ann"),), ("settle", (3, "ann"))), "2.ann bob 1.ann settle 3.ann"),
    ((NAME, "bob", ((1, "ann"),), ("open", (3, "ann"))), "2.ann bob 1.ann open 3.ann"),
    ((NAME, "bob", ((1, "ann"),), ("unsay", (3, "ann"))), "2.ann bob 1.ann unsay 3.ann"),
    ((NAME, "bob", ((1, "ann"), (1, "b")), ("join",)), "2.ann bob 1.ann,1.b join"),
    # a base by kind alone: in any order, some twice
    ((NAME, "bob", ((3, "zz"), (1, "b"), (3, "zz")), ("join",)), "2.ann bob 3.zz,1.b,3.zz join"),
    ((NAME, "bob", (), ("take", -1, -20)), "2.ann bob - take -1 -20"),
    ((NAME, "bob", (), ("put", 0, " ")), "2.ann bob - put 0 _"),
    ((NAME, "bob", (), ("put", 10, "  a  b      ")), "2.ann bob - put 10 __a__b______"),
    ((NAME, "bob", (), ("move", GREAT, -GREAT, 0)), f"2.ann bob - move {GREAT} -{GREAT} 0"),
    (((GREAT, "abcdefgh"), "a", ((GREAT, "b"),), ("back", (GREAT, "c"))), f"{GREAT}.abcdefgh a {GREAT}.b back {GREAT}.c"),
    # words of a deed as hands and branches
    (((1, "put"), "join", (), ("settle", (1, "open"))), "1.put join - settle 1.open"),
)


class Written(unittest.TestCase):
    def test_changes(self):
        for change, line in WRITTEN:
            kept = repr(change)
            for _ in range(2):
                self.assertEqual(shown_change(change), line)
                self.assertIs(type(shown_change(change)), str)
            self.assertEqual(repr(change), kept)

    def test_two_hundred_figures(self):
        most = 10**200 - 1
        for number in (most, -most):
            line = shown_change((NAME, "bob", (), ("take", number, 0)))
            self.assertEqual(line, f"2.ann bob - take {number} 0")
            self.assertEqual(len(line.split(" ")[4].lstrip("-")), 200)

    def test_ledgers(self):
        self.assertEqual(shown_ledger(()), [])
        ledger = (WRITTEN[0][0], ((2, "b"), "bob", ((1, "ann"),), ("take", 0, 1)))
        told = shown_ledger(ledger)
        self.assertEqual(told, ["1.ann ann - put 0 abc", "2.b bob 1.ann take 0 1"])
        self.assertIs(type(told), list)
        # the list is the asker's own
        told.append("x")
        told[0] = None
        self.assertEqual(shown_ledger(ledger), ["1.ann ann - put 0 abc", "2.b bob 1.ann take 0 1"])

    def test_stands(self):
        self.assertEqual(shown_stand(("lost", (5, "b"))), "lost 5.b")
        self.assertEqual(shown_stand(("unsaid", (7, "a"))), "unsaid 7.a")
        self.assertEqual(shown_stand(("there", ((0, 4), (6, 9)))), "there 0-4 6-9")
        self.assertEqual(shown_stand(("there", ((10, 11),))), "there 10-11")

    def test_stands_of_ledgers(self):
        words = set()
        for seed in range(60):
            ledger = remark_ledger(seed)
            for remark in remarks(ledger):
                word, told = stand(ledger, remark)
                line = shown_stand((word, told))
                words.add(word)
                if word == "there":
                    parts = tuple(tuple(int(end) for end in part.split("-")) for part in line.split(" ")[1:])
                    self.assertEqual((line.split(" ")[0], parts), (word, told))
                else:
                    self.assertEqual(line, f"{word} {told[0]}.{told[1]}")
        self.assertEqual(words, {"there", "lost", "unsaid"})


def any_change(chance):
    """Any CHANGE by kind."""
    def number():
        return chance.choice((0, 1, -1, 7, 12, -305, chance.randint(-(10**199), 10**199)))

    def word():
        return "".join(chance.choice("abz") for _ in range(chance.choice((1, 2, 8))))

    def name():
        return chance.choice((1, 2, 10, 10**199)), word()

    def letters():
        return "".join(chance.choice("az ") for _ in range(chance.choice((1, 2, 12))))

    deeds = (
        ("put", number(), letters()), ("take", number(), number()), ("move", number(), number(), number()),
        ("back", name()), ("hang", number(), number(), chance.choice(("shut", "wide")), letters()),
        ("answer", name(), letters()), ("settle", name()), ("open", name()), ("unsay", name()), ("join",),
    )
    base = tuple(name() for _ in range(chance.randint(0, 3)))
    return name(), word(), base, chance.choice(deeds)


class ReadAgain(unittest.TestCase):
    def test_changes(self):
        for change, line in WRITTEN:
            self.assertEqual(read_change(line), change)

    def test_any_changes(self):
        chance = random.Random(1)
        found = {}
        for _ in range(1500):
            change = any_change(chance)
            line = shown_change(change)
            self.assertEqual(repr(read_change(line)), repr(change))
            self.assertEqual(found.setdefault(line, change), change)
        self.assertGreater(len(found), 1000)

    def test_ledgers(self):
        for seed in range(80):
            ledger = any_ledger(seed, 16)
            lines = shown_ledger(ledger)
            self.assertEqual(len(lines), len(ledger))
            self.assertEqual(repr(read_ledger(lines)), repr(ledger))
            self.assertEqual(lines, shown_ledger(ledger))


if __name__ == "__main__":
    unittest.main()
