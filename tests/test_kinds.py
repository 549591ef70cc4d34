"""Points [10], [11], [12]: NUMBERS, WORDS, LETTERS, NAMES, DEEDS, CHANGES by kind."""

import copy
import unittest

from marginwords.changes import is_change
from marginwords.deeds import is_deed, names_in
from marginwords.kinds import is_letters, is_name, is_number, is_sign, is_word

BIG = 10**199

ODD = [
    None, True, False, (), [], "", " ", "A", "9", "(1, 'a')", 0, 1, -1, BIG, -BIG, (None,), [1, "a"], [[]],
    (1,), ("a",), (1, "a", 0, 0), ((1, "a"),), ((((),),),), "\n", "a\n", [("join",)], ["join"], "join", "put",
]

NUMBERS = [0, 1, -1, 7, BIG, -BIG, 10**200 - 1]
WORDS = ["a", "z", "ann", "abcdefgh", "zzzzzzzz"]
NO_WORDS = ["", "abcdefghi", "A", "aB", "a1", "1", "a b", " ", "a ", "a_", "a`", "{", "a\n", "a-b", "~", "@"]
LETTERS = ["a", " ", "he says", "abcdefghijkl", "            ", " a ", "zz z"]
NO_LETTERS = ["", "abcdefghijklm", "             ", "A", "a1", "a_b", "a\n", "a.", "{", "`", "!"]
NAMES = [(1, "a"), (2, "abcdefgh"), (BIG, "z"), (10**200 - 1, "ann")]
NO_NAMES = [
    (0, "a"), (-1, "a"), (-BIG, "a"), (True, "a"), (False, "a"), (None, "a"), ("1", "a"), (1, ""), (1, "A"),
    (1, "abcdefghi"), (1, "a b"), (1, None), (1, 1), (1, ("a",)), ("a", 1), [1, "a"], (1,), ("a",), (),
    (1, "a", 0), (1, "a", "a"), ((1, "a"),), "1.a", 1, None, True,
]

DEEDS = [
    ("put", 0, "a"), ("put", -3, "he says"), ("put", BIG, " "),
    ("take", 0, 1), ("take", 5, -5), ("take", -BIG, BIG),
    ("move", 0, 1, 2), ("move", -1, -2, -3),
    ("back", (1, "a")), ("back", (BIG, "zzzzzzzz")),
    ("hang", 0, 1, "shut", "why"), ("hang", -1, -1, "wide", "abcdefghijkl"),
    ("answer", (3, "ann"), "no"), ("settle", (3, "ann")), ("open", (3, "ann")), ("unsay", (3, "ann")),
    ("join",),
]

NO_DEEDS = [
    (), ("",), ("puts", 0, "a"), ("Put", 0, "a"), (None,), (["join"],), (("join",),), (True, 0, "a"), (0, 0, "a"),
    ("put", "a", 0), ("put", None, "a"), ("put", 0, ""), ("put", 0, "A"), ("put", 0, "abcdefghijklm"),
    ("put", 0, 0), ("put", 0, ["a"]), ("take", (0,), 1), ("take", 0, "1"), ("hang", 0, 1, "open", "a"),
    ("hang", 0, 1, "", "a"), ("hang", 0, 1, ["shut"], "a"), ("hang", 0, 1, None, "a"), ("hang", 0, 1, "Shut", "a"),
    ("hang", 0, 1, 0, "a"), ("hang", 0, 1, "a", "shut"), ("back", "a"), ("back", 1), ("back", (1, "a"), (1, "a")),
    ("back", ((1, "a"),)), ("answer", "no", (3, "ann")), ("answer", (3, "ann"), ""), ("join", ()), ("join", (1, "a")),
    ("shut",), ("hand", (1, "a")),
]

CHANGES = [
    ((1, "a"), "ann", (), ("put", 0, "a")),
    ((9, "zz"), "b", ((1, "a"),), ("take", -5, 0)),
    ((9, "zz"), "b", ((5, "a"), (1, "a")), ("join",)),
    ((1, "a"), "b", ((9, "a"), (9, "a"), (1, "a")), ("hang", 3, 2, "wide", " ")),
    ((BIG, "a"), "b", ((BIG, "a"),) * 3, ("back", (BIG, "a"))),
]


def with_part(row, k, part):
    return row[:k] + (part,) + row[k + 1 :]


class Kinds(unittest.TestCase):
    def test_numbers(self):
        for thing in NUMBERS:
            self.assertIs(is_number(thing), True)
        for thing in (True, False, None, "1", "", (), (1,), [], [1]):
            self.assertIs(is_number(thing), False)

    def test_words(self):
        for thing in WORDS:
            self.assertIs(is_word(thing), True, thing)
        for thing in NO_WORDS + [None, True, 1, (), ("a",), [], ["a"], ("a", "b")]:
            self.assertIs(is_word(thing), False, thing)

    def test_letters(self):
        for thing in LETTERS:
            self.assertIs(is_letters(thing), True, thing)
        for thing in NO_LETTERS + [None, True, 1, (), ("a",), [], ["a"], ("a", " ")]:
            self.assertIs(is_letters(thing), False, thing)

    def test_every_sign_of_a_text(self):
        small = "abcdefghijklmnopqrstuvwxyz"
        for code in range(32, 127):
            sign = chr(code)
            for text in (sign, "a" + sign, sign + "a"):
                self.assertIs(is_word(text), sign in small)
                self.assertIs(is_letters(text), sign in small + " ")

    def test_names(self):
        for thing in NAMES:
            self.assertIs(is_name(thing), True, thing)
        for thing in NO_NAMES:
            self.assertIs(is_name(thing), False, thing)

    def test_signs(self):
        for thing in ((1, "a", 0), (BIG, "zz", 3)):
            self.assertIs(is_sign(thing), True)
        for thing in ((0, "a", 0), (1, "a", -1), (1, "a", False), (True, "a", 0), (1, "a"), [1, "a", 0], (1, "", 0), None):
            self.assertIs(is_sign(thing), False)

    def test_odd_things(self):
        for thing in ODD:
            for look in (is_number, is_word, is_letters, is_name, is_deed, is_change):
                right = {is_number: isinstance(thing, int) and thing is not True and thing is not False,
                         is_word: thing in ("join", "put"), is_letters: thing in (" ", "join", "put")}
                self.assertIs(look(thing), right.get(look, False), (look, thing))

    def test_questions_change_nothing(self):
        for thing in ODD + NO_NAMES + NO_DEEDS:
            kept = copy.deepcopy(thing)
            for look in (is_number, is_word, is_letters, is_name, is_deed, is_change):
                self.assertIs(look(thing), look(thing))
            self.assertEqual(repr(thing), repr(kept))


class Deeds(unittest.TestCase):
    def test_deeds(self):
        for deed in DEEDS:
            self.assertIs(is_deed(deed), True, deed)

    def test_no_deeds(self):
        for thing in NO_DEEDS:
            self.assertIs(is_deed(thing), False, thing)

    def test_a_part_out_a_part_more_a_list(self):
        for deed in DEEDS:
            self.assertIs(is_deed(deed[:-1]), False, deed)
            self.assertIs(is_deed(deed[1:]), False, deed)
            self.assertIs(is_deed(list(deed)), False, deed)
            for more in (0, "a", (1, "a"), None, ()):
                self.assertIs(is_deed(deed + (more,)), False, deed)

    def test_each_part_of_another_kind(self):
        for deed in DEEDS:
            for k, part in enumerate(deed):
                for odd in (None, True, False, [], (), [part], (part,), "A", ""):
                    self.assertIs(is_deed(with_part(deed, k, odd)), False, (deed, k, odd))
                if isinstance(part, tuple):
                    for odd in NO_NAMES:
                        self.assertIs(is_deed(with_part(deed, k, odd)), False)

    def test_names_in(self):
        naming = ("back", "answer", "settle", "open", "unsay")
        for deed in DEEDS:
            wanted = (deed[1],) if deed[0] in naming else ()
            self.assertEqual(names_in(deed), wanted)
            self.assertIs(type(names_in(deed)), tuple)
        self.assertEqual(names_in(("answer", (3, "ann"), "no")), ((3, "ann"),))


class Changes(unittest.TestCase):
    def test_changes(self):
        for change in CHANGES:
            self.assertIs(is_change(change), True, change)
            for deed in DEEDS:
                self.assertIs(is_change(with_part(change, 3, deed)), True)

    def test_a_part_out_a_part_more_a_list(self):
        for change in CHANGES:
            self.assertIs(is_change(change[:-1]), False)
            self.assertIs(is_change(change[1:]), False)
            self.assertIs(is_change(change + ((),)), False)
            self.assertIs(is_change(list(change)), False)

    def test_each_part_of_another_kind(self):
        change = CHANGES[1]
        for odd in NO_NAMES:
            self.assertIs(is_change(with_part(change, 0, odd)), False, odd)
            self.assertIs(is_change(with_part(change, 2, (odd,))), False, odd)
            self.assertIs(is_change(with_part(change, 2, ((1, "a"), odd))), False, odd)
        for odd in NO_WORDS + [None, True, 1, (), ("a",), ["a"], (1, "a")]:
            self.assertIs(is_change(with_part(change, 1, odd)), False, odd)
        for odd in NO_DEEDS + [None, [], "join", ["join"]]:
            self.assertIs(is_change(with_part(change, 3, odd)), False, odd)
        for odd in (None, [], [(1, "a")], "", "ab", 1, True, (1, "a"), ((1, "a"), [])):
            self.assertIs(is_change(with_part(change, 2, odd)), False, odd)


if __name__ == "__main__":
    unittest.main()
