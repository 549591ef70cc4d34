"""Points [82], [83]: CHANGES and LEDGERS read from texts."""

import unittest

from marginwords.lines import shown_ledger
from marginwords.readings import read_change, read_ledger
from tests.ledgers import any_ledger, rows_on
from tests.test_lines import WRITTEN
from tests.things import refused

MOST = "9" * 200
FRONT = "2.ann bob 1.ann"
# No NUMBER is written so; + and a 0 ahead, figures that are none of 0 to 9, too many of them.
NO_NUMBERS = ("", "+1", "01", "00", "-0", "-00", "-01", "-", "--1", "1-", "a", "1a", "1.0", "1_0", "1,0", "_", "1" + MOST,
              "-1" + MOST, "0" + MOST, "\u0663", "\u00b2", "\uff11", "1\n", "\t1", "0x1", "1e3")
NO_WORDS = ("", "A", "Bob", "abcdefghi", "a1", "a.", "a_b", "-", "\u00e4", "a\n", "1")
NO_NAMES = ("", "-", "ann", "1", "1.", ".ann", "0.ann", "-1.ann", "01.ann", "+1.ann", "1.Ann", "1.abcdefghi", "1.a.b", "1..a",
            "1,a", "1-a", "a.1", "1.ann,", "1.a,2.b", "1" + MOST + ".ann", "\u0661.ann", "1.a\n", "1.a_b")
NO_BASES = ("", "--", ",", "1.ann,", ",1.ann", "1.ann,,1.b", "1.ann,-", "-,1.ann", "1.ann;1.b", "ann", "0.ann", "1.ann,01.b",
            "1.ann,1" + MOST + ".b")
NO_LETTERS = ("", "A", "abcdefghijklm", "_" * 13, "a1", "a-b", "a.", "\u00e4", "a\n", "-")
NO_EDGES = ("", "Shut", "open", "shu", "wider", "1", "-")
NO_DEEDS = ("", "Put", "puts", "pu", "-", "1", "begin", "take_in", "put\n")
# Under the first word of each DEED what must stand behind it.
KINDS = {
    "put": ("0", "he_says"),
    "take": ("2", "5"),
    "move": ("0", "2", "4"),
    "back": ("3.ann",),
    "hang": ("1", "4", "shut", "is_it_so"),
    "answer": ("3.ann", "no"),
    "settle": ("3.ann",),
    "open": ("3.ann",),
    "unsay": ("3.ann",),
    "join": (),
}


def wrong_for(word):
    """Words that can't stand where this one can."""
    if word in ("shut", "wide"):
        return NO_EDGES
    if "." in word:
        return NO_NAMES
    return NO_NUMBERS if word.isdigit() else NO_LETTERS


class Changes(unittest.TestCase):
    def refuses(self, text, word):
        self.assertEqual(refused(read_change, text), ("NoText", 0, word), text)

    def test_right_ones(self):
        for change, line in WRITTEN:
            for _ in range(2):
                self.assertEqual(repr(read_change(line)), repr(change))
        for number in (MOST, "-" + MOST):
            self.assertEqual(read_change(f"{FRONT} take {number} 0")[3], ("take", int(number), 0))
        self.assertEqual(read_change(f"{MOST}.a b {MOST}.c join")[0], (int(MOST), "a"))

    def test_of_each_place_of_each_deed_a_word_that_cannot_stand_there(self):
        for deed, parts in KINDS.items():
            words = [*FRONT.split(" "), deed, *parts]
            self.assertEqual(read_change(" ".join(words))[3][0], deed)
            places = [NO_NAMES, NO_WORDS, NO_BASES, NO_DEEDS, *[wrong_for(part) for part in parts]]
            for k, wrongs in enumerate(places):
                for wrong in wrongs:
                    self.refuses(" ".join(words[:k] + [wrong] + words[k + 1 :]), k)
                    # what is wrong further on, too many or too few, comes behind
                    self.refuses(" ".join(words[:k] + [wrong] + ["%"] * (len(words) - k)), k)
                    self.refuses(" ".join(words[:k] + [wrong]), k)

    def test_too_many(self):
        for deed, parts in KINDS.items():
            words = [*FRONT.split(" "), deed, *parts]
            for more in (["x"], [""], ["0"], ["", ""], ["-", "x"]):
                self.refuses(" ".join(words + more), len(words))

    def test_too_few(self):
        for deed, parts in KINDS.items():
            words = [*FRONT.split(" "), deed, *parts]
            for k in range(1, len(words)):
                self.refuses(" ".join(words[:k]), k)

    def test_blanks(self):
        self.refuses("", 0)
        self.refuses(" ", 0)
        self.refuses("   ", 0)
        for line, wrong in (
            (" 2.ann bob 1.ann join", 0), ("2.ann  bob 1.ann join", 1), ("2.ann bob  1.ann join", 2),
            ("2.ann bob 1.ann  join", 3), ("2.ann bob 1.ann join ", 4), ("2.ann bob 1.ann take  1 2", 4),
            ("2.ann bob 1.ann take 1  2", 5), ("2.ann bob 1.ann take 1 2 ", 6), ("2.ann bob 1.ann take 1 ", 5),
            ("2.ann ", 1), ("2.ann bob ", 2), ("2.ann bob 1.ann ", 3), ("2.ann bob 1.ann, 1.b join", 2),
            ("2.ann\tbob 1.ann join", 0), ("2.ann bob 1.ann join\n", 3),
        ):
            self.refuses(line, wrong)

    def test_more_than_two_hundred_figures(self):
        self.refuses(f"1{MOST}.ann bob - join", 0)
        self.refuses(f"2.ann bob 1.b,1{MOST}.ann join", 2)
        self.refuses(f"2.ann bob - take 1{MOST} 0", 4)
        self.refuses(f"2.ann bob - take 0 -1{MOST}", 5)
        self.refuses(f"2.ann bob - settle 1{MOST}.ann", 4)
        self.refuses("2.ann bob - take 0 " + "7" * 3900, 5)

    def test_letters_with_their_blanks(self):
        self.assertEqual(read_change("1.a b - put 0 _")[3], ("put", 0, " "))
        self.assertEqual(read_change("1.a b - put 0 ____________")[3], ("put", 0, " " * 12))
        self.assertEqual(read_change("1.a b - put 0 a_b_")[3], ("put", 0, "a b "))


class Ledgers(unittest.TestCase):
    def refuses(self, lines, *wanted):
        kept = list(lines)
        self.assertEqual(refused(read_ledger, lines), wanted)
        self.assertEqual(lines, kept)

    def test_right_ones(self):
        self.assertEqual(read_ledger([]), ())
        for seed in range(30):
            ledger = any_ledger(seed)
            lines = shown_ledger(ledger)
            kept = list(lines)
            for _ in range(2):
                told = read_ledger(lines)
                self.assertEqual(told, ledger)
                self.assertIs(type(told), tuple)
            self.assertEqual(lines, kept)

    def test_the_first_of_two_wrong_lines(self):
        lines = shown_ledger(rows_on((), "ann", ("put", 0, "abc"), ("take", 0, 1), ("join",), ("put", 0, "x")))
        for k in range(4):
            for wrong, word in (("", 0), ("1.a", 1), ("1.a b - put x", 4), ("1.a b - join x", 4)):
                spoilt = lines[:k] + [wrong] + lines[k + 1 :]
                self.refuses(spoilt, "NoText", k, word)
                self.refuses(spoilt + ["1.a b %"], "NoText", k, word)
        self.refuses(["x"], "NoText", 0, 0)

    def test_no_text_goes_ahead_of_no_paper(self):
        self.refuses(["9.ann ann - put 0 x", "1.b"], "NoText", 1, 1)
        self.refuses(["9.ann ann - put 0 x", "1.b ann - join"], "NoPaper", "count", 0)

    def test_right_lines_that_write_no_ledger(self):
        one = "1.ann ann - put 0 abc"
        for lines, word, at in (
            (["1.ann ann - put 1 abc"], "deed", 0), (["2.ann ann - put 0 abc"], "count", 0), ([one, one], "rise", 1),
            ([one, "2.ann ann 1.b join"], "base", 1), ([one, "2.b b 1.ann,1.ann join"], "base", 1),
            ([one, "3.b b 1.ann take 0 1"], "count", 1), ([one, "2.ann b 1.ann take 0 4"], "deed", 1),
            ([one, "1.b b - put 0 x", "2.ann ann 1.b put 0 x"], "branch", 2), ([one, "2.b b 1.ann join"], "deed", 1),
        ):
            self.refuses(lines, "NoPaper", word, at)


if __name__ == "__main__":
    unittest.main()
