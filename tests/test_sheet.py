"""Points [66], [67]: a sheet."""

import random
import unittest

from marginwords.calling import word_of
from marginwords.errors import NoBase, NoName
from marginwords.making import laid_on
from marginwords.roads import is_road, road_by_names
from marginwords.sheet import Sheet
from marginwords.spans import remarks
from marginwords.stands import stand
from marginwords.texts import signs, text
from tests import model
from tests.ledgers import any_ledger, laid, remark_ledger, rows_on, together
from tests.things import ODD, refused

START = rows_on((), "ann", ("put", 0, "abc"))
LEFT = rows_on(START, "b", ("take", 0, 1), ("put", 2, "x"))
RIGHT = rows_on(START, "cyr", ("hang", 0, 2, "shut", "why"), ("settle", (2, "cyr")))
WHOLE = together(LEFT, RIGHT)


def sheet_of(changes):
    sheet = Sheet()
    for change in changes:
        assert sheet.lay(change) is True
    return sheet


def told(sheet):
    """All that is told of a sheet."""
    names = [change[0] for change in sheet.ledger() if change[3][0] == "hang"]
    return (
        sheet.names(), sheet.ledger(), sheet.signs(), sheet.text(),
        tuple((sheet.stand(name), sheet.word_of(name)) for name in names),
    )


def any_road(seed, ledger):
    """The CHANGES of a LEDGER in any order in which each stands behind what it knows."""
    chance = random.Random(seed)
    left = list(ledger)
    found = []
    while left:
        names = {change[0] for change in found}
        change = chance.choice([each for each in left if set(each[2]) <= names])
        left.remove(change)
        found.append(change)
    return found


class Laying(unittest.TestCase):
    def test_none(self):
        sheet = Sheet()
        self.assertEqual(told(sheet), ((), (), (), "", ()))

    def test_one_by_one(self):
        sheet = Sheet()
        for k, change in enumerate(WHOLE):
            self.assertIs(sheet.lay(change), True)
            self.assertEqual(sheet.names(), road_by_names(WHOLE)[: k + 1])
            self.assertEqual(sheet.ledger(), WHOLE[: k + 1])
            self.assertEqual((sheet.signs(), sheet.text()), (signs(WHOLE[: k + 1]), text(WHOLE[: k + 1])))
        self.assertEqual(sheet.text(), "bcx")
        self.assertEqual(sheet.stand((2, "cyr")), ("there", ((0, 1),)))
        self.assertEqual(sheet.word_of((2, "cyr")), "up")

    def test_a_lesser_name_behind_a_greater_one(self):
        sheet = sheet_of(RIGHT)
        for change in LEFT[1:]:
            self.assertIs(sheet.lay(change), True)
        self.assertEqual(sheet.names(), ((1, "ann"), (2, "cyr"), (3, "cyr"), (2, "b"), (3, "b")))
        self.assertEqual(sheet.ledger(), WHOLE)

    def test_the_same_one_twice(self):
        sheet = sheet_of(WHOLE)
        before = told(sheet)
        for change in WHOLE:
            self.assertIs(sheet.lay(change), False)
        self.assertEqual(told(sheet), before)

    def test_by_several_roads(self):
        for seed in range(80):
            ledger = remark_ledger(seed) if seed % 2 else any_ledger(seed)
            kept = repr(ledger)
            first = sheet_of(ledger)
            for more in range(2):
                road = any_road(seed + more, ledger)
                sheet = sheet_of(road)
                self.assertEqual(sheet.names(), tuple(change[0] for change in road))
                self.assertTrue(is_road(ledger, sheet.names()))
                self.assertEqual(told(sheet)[1:], told(first)[1:])
                self.assertEqual(told(sheet), told(sheet))
            self.assertEqual((first.ledger(), first.signs(), first.text()), (ledger, signs(ledger), text(ledger)))
            self.assertEqual(first.text(), model.letters(ledger))
            for name in remarks(ledger):
                self.assertEqual(first.stand(name), stand(ledger, name))
                self.assertEqual(first.word_of(name), word_of(ledger, name))
            self.assertEqual(repr(ledger), kept)

    def test_twenty_four_changes(self):
        deeds = [("put", k, "ab") for k in range(23)]
        ledger = rows_on((), "ann", ("put", 0, "abcdef"), *deeds)
        sheet = sheet_of(ledger)
        self.assertEqual((len(sheet.names()), len(sheet.text())), (24, 52))
        self.assertEqual(sheet.ledger(), ledger)

    def test_two_sheets_by_turns(self):
        one, other = Sheet(), Sheet()
        for k in range(5):
            one.lay(WHOLE[k])
            other.lay((START + LEFT[1:] + RIGHT[1:])[k])
            self.assertEqual(one.ledger(), WHOLE[: k + 1])
        self.assertEqual(one.ledger(), other.ledger())
        self.assertNotEqual(one.names(), other.names())
        self.assertEqual(Sheet().ledger(), ())


class Refused(unittest.TestCase):
    def asked(self, sheet, thing, wanted):
        """It is refused so, and that changes nothing."""
        before = told(sheet)
        self.assertEqual(refused(sheet.lay, thing), wanted)
        self.assertEqual(told(sheet), before)

    def test_no_base(self):
        sheet = Sheet()
        self.asked(sheet, LEFT[1], ("NoBase", (1, "ann")))
        sheet.lay(START[0])
        self.asked(sheet, LEFT[2], ("NoBase", (2, "b")))
        join = laid(WHOLE, "cyr", ("join",))[-1]
        self.asked(sheet, join, ("NoBase", (3, "b")))
        sheet = sheet_of(LEFT)
        self.asked(sheet, join, ("NoBase", (3, "cyr")))

    def test_no_base_tells_the_least_of_several_in_any_order(self):
        sheet = sheet_of(START)
        base = ((5, "b"), (3, "zz"), (1, "ann"), (3, "b"), (3, "b"))
        self.asked(sheet, ((9, "cyr"), "ann", base, ("join",)), ("NoBase", (3, "b")))
        self.asked(sheet, ((9, "cyr"), "ann", ((9, "cyr"),), ("join",)), ("NoBase", (9, "cyr")))

    def test_no_base_keeps_the_very_thing(self):
        name = (7, "".join(["z", "z"]))
        with self.assertRaises(NoBase) as caught:
            Sheet().lay(((8, "a"), "ann", (name,), ("put", 0, "x")))
        self.assertIs(caught.exception.name, name)

    def test_no_base_ahead_of_no_paper(self):
        sheet = sheet_of(WHOLE)
        # this name was laid, its base not rising, its count wrong, its deed can't be done: all that comes behind
        self.asked(sheet, ((2, "b"), "ann", ((1, "ann"), (1, "a")), ("take", 7, 7)), ("NoBase", (1, "a")))

    def test_rise(self):
        sheet = sheet_of(WHOLE)
        name, hand, base, deed = LEFT[1]
        for change in ((name, "bob", base, deed), (name, hand, (), deed), (name, hand, base, ("take", 0, 2))):
            self.asked(sheet, change, ("NoPaper", "rise", 2))

    def test_no_paper_as_it_is_laid_on_a_ledger(self):
        changes = [
            ((3, "dd"), "ann", ((2, "cyr"), (2, "b")), ("join",)),
            ((3, "dd"), "ann", ((1, "ann"), (2, "b")), ("put", 0, "x")),
            ((3, "dd"), "ann", ((1, "ann"),), ("put", 0, "x")),
            ((2, "dd"), "ann", ((1, "ann"),), ("put", 4, "x")),
            ((2, "dd"), "ann", ((1, "ann"),), ("join",)),
            ((1, "b"), "ann", (), ("put", 0, "x")),
            ((3, "b"), "ann", ((2, "cyr"),), ("put", 0, "x")),
            ((4, "ann"), "bob", ((3, "cyr"),), ("unsay", (2, "cyr"))),
        ]
        words = set()
        for change in changes:
            sheet = sheet_of(WHOLE)
            wanted = refused(laid_on, WHOLE, change)
            self.assertEqual(wanted[0], "NoPaper")
            words.add(wanted[1])
            self.asked(sheet, change, wanted)
        self.assertEqual(words, {"base", "count", "branch", "deed", "rise"})
        self.asked(sheet_of(WHOLE), ((1, "b"), "ann", (), ("put", 0, "x")), ("NoPaper", "branch", 2))

    def test_odd_things(self):
        name, hand, base, deed = LEFT[1]
        odd = ODD + (list(LEFT[1]), LEFT[1][:3], LEFT[1] + (None,), (name, hand, list(base), deed),
                     ((True, "b"), hand, base, deed), (name, "Bob", base, deed), (name, hand, base, list(deed)),
                     (name, hand, (True,), deed), (name, hand, ((9, "zz"), None), deed), (name, hand, base, ("take", 0, True)))
        for sheet in (Sheet(), sheet_of(START)):
            for thing in odd:
                self.asked(sheet, thing, ("NoPaper", "change", len(sheet.ledger())))
        # one that is like a change that was laid, but for a truth
        sheet = sheet_of(START)
        self.asked(sheet, ((True, "ann"), "ann", (), ("put", 0, "abc")), ("NoPaper", "change", 1))
        self.asked(sheet, ((1, "ann"), "ann", (), ("put", False, "abc")), ("NoPaper", "change", 1))

    def test_no_name(self):
        sheet = sheet_of(WHOLE)
        thing = [1]
        for ask in (sheet.stand, sheet.word_of):
            for name in ODD + ((1, "ann"), (3, "cyr"), (2, "b"), (9, "zz"), [2, "cyr"], (2, "cyr", 0)):
                self.assertEqual(refused(ask, name), ("NoName", name))
            with self.assertRaises(NoName) as caught:
                ask(thing)
            self.assertIs(caught.exception.name, thing)
            self.assertEqual(refused(ask, (2, "cyr")), None)
        self.assertEqual(refused(Sheet().stand, (2, "cyr")), ("NoName", (2, "cyr")))

    def test_what_is_handed_in_stays(self):
        thing = ((1, "ann"), "ann", [], ["put", [0]])
        before = repr(thing)
        self.asked(Sheet(), thing, ("NoPaper", "change", 0))
        self.assertEqual(repr(thing), before)


if __name__ == "__main__":
    unittest.main()
