"""Points [86], [87], [88]: a desk."""

import random
import unittest

from marginwords.book import Book
from marginwords.calling import caller, word_of
from marginwords.desk import Desk
from marginwords.errors import NoRow
from marginwords.freeing import freed
from marginwords.joining import is_part
from marginwords.keeping import kept
from marginwords.knowing import change_of, tops
from marginwords.lines import shown_change, shown_ledger, shown_stand
from marginwords.scripts import fewest_steps
from marginwords.spans import remarks
from marginwords.stands import stand
from marginwords.talking import answers, decided
from marginwords.texts import signs, text
from tests.ledgers import any_ledger, fitting_deeds, part_of, remark_ledger, rows_on
from tests.things import refused

ASKED_OF_A_LEDGER = ("names", "tops", "remarks", "many", "text")
ASKED_OF_A_REMARK = ("stand", "word", "caller", "decided", "answers", "free")
ASKED_OF_TWO = ("kept", "steps", "part")


def name_line(name):
    return f"{name[0]}.{name[1]}"


def several(words):
    return " ".join(words) or "-"


def said(*rows):
    """A desk that was told these rows."""
    desk = Desk()
    for row in rows:
        desk.say(row)
    return desk


def state(desk):
    """What a desk has, as it answers."""
    found = [desk.say(row) for row in ("branches", "own", "whole")]
    if found[0] != "-":
        found += [desk.say(f"{word} {branch}") for branch in found[0].split(" ") for word in ASKED_OF_A_LEDGER]
    if found[2] != "-":
        found += [desk.say(f"line {name}") for name in found[2].split(" ")]
    return found


ROWS = (
    "begin a", "do a ann put 0 he_says_so", "do a ann hang 3 7 wide is_it_so", "begin b a", "do b bob put 10 _x",
    "do a bob answer 2.a yes_so", "do b ann answer 2.a no", "do a ann settle 2.a", "do b bob take 3 5",
    "take a cyr b",
)


class Rows(unittest.TestCase):
    def refuses(self, desk, row, *wanted):
        """It is refused so, and that changes nothing."""
        before = state(desk)
        self.assertEqual(refused(desk.say, row), wanted, row)
        self.assertEqual(state(desk), before)


class Deeds(Rows):
    def test_each_answer(self):
        desk = Desk()
        told = [desk.say(row) for row in ROWS]
        self.assertEqual(told, ["ok", "1.a", "2.a", "ok", "3.b", "3.a", "4.b", "4.a", "5.b", "6.a"])
        self.assertTrue(all(type(answer) is str for answer in told))

    def test_each_deed(self):
        desk = said("begin a")
        for row, name in (
            ("put 0 abcdef", "1.a"), ("take 0 1", "2.a"), ("move 0 1 3", "3.a"), ("back 2.a", "4.a"),
            ("hang 0 2 shut why", "5.a"), ("answer 5.a n_o", "6.a"), ("settle 5.a", "7.a"), ("open 5.a", "8.a"),
            ("unsay 6.a", "9.a"), ("unsay 5.a", "10.a"),
        ):
            self.assertEqual(desk.say(f"do a ann {row}"), name)
            self.assertEqual(desk.say(f"line {name}").split(" ", 3)[3], row)
        self.refuses(desk, "do a ann join", "NoChange", "join")

    def test_begin(self):
        desk = said("begin a", "do a ann put 0 x")
        self.refuses(desk, "begin a", "NoBranch", "a")
        self.refuses(desk, "begin a none", "NoBranch", "a")
        self.refuses(desk, "begin b none", "NoBranch", "none")
        self.assertEqual(desk.say("begin b"), "ok")
        self.assertEqual(desk.say("begin cc a"), "ok")
        self.assertEqual([desk.say(f"text {branch}") for branch in ("a", "b", "cc")], ["x", "-", "x"])

    def test_do_refused(self):
        desk = said("begin a", "do a ann put 0 abc", "do a ann hang 0 1 shut why")
        self.refuses(desk, "do b ann put 0 x", "NoBranch", "b")
        for row, word in (("put 4 x", "place"), ("put -1 x", "place"), ("take 0 4", "place"), ("back 1.a", "name"),
                          ("open 2.a", "open"), ("join", "join"), ("settle 9.z", "name"), ("put " + "9" * 200 + " x", "place")):
            self.refuses(desk, f"do a ann {row}", "NoChange", word)
        self.refuses(desk, "do a bob unsay 2.a", "NoChange", "hand")
        desk.say("do a ann unsay 2.a")
        self.refuses(desk, "do a ann settle 2.a", "NoChange", "gone")

    def test_take_refused(self):
        desk = said("begin a", "begin b", "do a ann put 0 x")
        self.refuses(desk, "take x ann y", "NoBranch", "x")
        self.refuses(desk, "take a ann y", "NoBranch", "y")
        self.refuses(desk, "take a ann b", "NoChange", "join")
        self.refuses(desk, "take b ann a", "NoChange", "join")
        self.refuses(desk, "take a ann a", "NoChange", "join")
        desk.say("do b ann put 0 y")
        self.assertEqual(desk.say("take b ann a"), "2.b")

    def test_bring(self):
        desk = Desk()
        self.assertEqual(desk.say("bring 1.a ann - put 0 x_y"), "1.a")
        self.assertEqual(desk.say("bring 1.a ann - put 0 x_y"), "-")
        self.assertEqual(desk.say("bring 1.a ann - put 0 x_y / 1.b bob - put 0 z / 2.b bob 1.a,1.b join"), "1.b 2.b")
        self.assertEqual((desk.say("text b"), desk.say("own")), ("zx_y", "-"))
        self.assertEqual(desk.say("do b bob take 0 1"), "3.b")

    def test_bring_refused(self):
        desk = said("begin a", "do a ann put 0 x")
        self.refuses(desk, "bring 1.a ann - put 0 y", "NoJoin", (1, "a"), "unlike")
        self.refuses(desk, "bring 2.b ann 1.a put 0 y", "NoPaper", "base", 0)
        self.refuses(desk, "bring 1.a ann - put 0 y / 1.a ann - put 0 y", "NoPaper", "rise", 1)
        self.refuses(desk, "bring 1.a ann - put 1 y", "NoPaper", "deed", 0)
        self.refuses(desk, "bring 1.a ann - put 0 y / 3.b ann 1.a put 0 z", "NoPaper", "count", 1)
        desk.say("do a ann put 0 y")
        self.refuses(desk, "bring 1.b ann - put 0 x / 2.a ann 1.b put 0 y", "NoJoin", (2, "a"), "unlike")

    def test_bring_whole_ledgers(self):
        for seed in range(30):
            ledger = any_ledger(seed)
            desk = Desk()
            first = part_of(seed, ledger)
            if first:
                self.assertEqual(desk.say("bring " + " / ".join(shown_ledger(first))), several(name_line(c[0]) for c in first))
            came = [change[0] for change in ledger if change not in first]
            self.assertEqual(desk.say("bring " + " / ".join(shown_ledger(ledger))), several(map(name_line, came)))
            self.assertEqual([desk.say(f"line {name_line(change[0])}") for change in ledger], shown_ledger(ledger))

    def test_strike(self):
        desk = said("begin a")
        self.refuses(desk, "strike", "NoStrike", "none")
        before = state(desk)
        self.assertEqual(desk.say("do a ann put 0 x"), "1.a")
        self.assertEqual(desk.say("strike"), "1.a")
        self.assertEqual(state(desk), before)
        desk.say("do a ann put 0 x")
        desk.say("begin b a")
        self.refuses(desk, "strike", "NoStrike", "begun")
        desk.say("bring 1.a ann - put 0 x / 2.cc bob 1.a put 0 y")
        self.refuses(desk, "strike", "NoStrike", "known")


class Asking(Rows):
    def test_none(self):
        desk = Desk()
        self.assertEqual([desk.say(row) for row in ("branches", "own", "whole")], ["-", "-", "-"])
        desk.say("begin a")
        self.assertEqual([desk.say(f"{word} a") for word in ASKED_OF_A_LEDGER], ["-", "-", "-", "0", "-"])
        self.assertEqual([desk.say(f"{word} a a") for word in ASKED_OF_TWO], ["0", "0", "yes"])

    def test_by_hand(self):
        desk = said(*ROWS)
        for row, wanted in (
            ("branches", "a b"), ("own", "1.a 2.a 3.b 3.a 4.b 4.a 5.b 6.a"), ("whole", "1.a 2.a 3.a 3.b 4.a 4.b 5.b 6.a"),
            ("line 1.a", "1.a ann - put 0 he_says_so"), ("line 6.a", "6.a cyr 4.a,5.b join"),
            ("names b", "1.a 2.a 3.b 4.b 5.b"), ("names a", "1.a 2.a 3.a 3.b 4.a 4.b 5.b 6.a"), ("names 3.a", "1.a 2.a 3.a"),
            ("tops a", "6.a"), ("tops 5.b", "5.b"), ("remarks a", "2.a"), ("remarks 1.a", "-"),
            ("many a", "10"), ("many 1.a", "10"), ("text 1.a", "he_says_so"), ("text 3.b", "he_says_so_x"),
            ("text b", "he_ys_so_x"), ("text a", "he_ys_so_x"),
            ("stand 2.a 2.a", "there 3-7"), ("stand b 2.a", "there 3-5"), ("stand a 2.a", "there 3-5"),
            ("word 2.a 2.a", "open"), ("word 4.a 2.a", "settled"), ("word a 2.a", "up"), ("word b 2.a", "open"),
            ("caller a 2.a", "5.b"), ("caller 4.a 2.a", "-"), ("decided a 2.a", "settle 4.a"), ("decided b 2.a", "-"),
            ("answers a 2.a", "3.a,bob,yes_so 4.b,ann,no"), ("answers b 2.a", "4.b,ann,no"), ("answers 2.a 2.a", "-"),
            ("free a 2.a", "-"), ("kept 1.a a", "8"), ("kept a 1.a", "8"), ("steps 1.a a", "4"), ("steps 3.b 1.a", "2"),
            ("part 1.a a", "yes"), ("part a 1.a", "no"), ("part a a", "yes"), ("part b 4.a", "no"), ("part b a", "yes"),
        ):
            before = state(desk)
            for _ in range(2):
                self.assertEqual(desk.say(row), wanted, row)
            self.assertEqual(state(desk), before)

    def test_lost_and_unsaid(self):
        desk = said("begin a", "do a ann put 0 abc", "do a ann hang 0 2 shut why", "do a ann take 0 2", "do a bob put 0 x")
        self.assertEqual([desk.say(f"{word} a 2.a") for word in ASKED_OF_A_REMARK],
                         ["lost 3.a", "lost", "-", "-", "-", "3.a 4.a"])
        desk.say("do a ann settle 2.a")
        desk.say("do a ann open 2.a")
        self.assertEqual(desk.say("decided a 2.a"), "open 6.a")
        desk.say("do a ann unsay 2.a")
        self.assertEqual([desk.say(f"{word} a 2.a") for word in ("stand", "word", "free")], ["unsaid 7.a", "unsaid", "-"])

    def test_a_text_of_blanks(self):
        desk = said("begin a", "do a ann put 0 _")
        self.assertEqual((desk.say("text a"), desk.say("many a")), ("_", "1"))
        desk.say("do a ann take 0 1")
        self.assertEqual((desk.say("text a"), desk.say("many a")), ("-", "0"))

    def test_no_such_view_or_remark(self):
        desk = said(*ROWS)
        for word in ASKED_OF_A_LEDGER:
            self.refuses(desk, f"{word} zz", "NoBranch", "zz")
            self.refuses(desk, f"{word} 9.zz", "NoName", (9, "zz"))
        for word in ASKED_OF_A_REMARK:
            self.refuses(desk, f"{word} zz 9.zz", "NoBranch", "zz")
            self.refuses(desk, f"{word} 9.a 8.zz", "NoName", (9, "a"))
            for name in ((1, "a"), (3, "a"), (9, "zz")):
                self.refuses(desk, f"{word} a {name_line(name)}", "NoName", name)
            # the remark is there, but not in this view
            self.refuses(desk, f"{word} 1.a 2.a", "NoName", (2, "a"))
        for word in ASKED_OF_TWO:
            self.refuses(desk, f"{word} zz yy", "NoBranch", "zz")
            self.refuses(desk, f"{word} a yy", "NoBranch", "yy")
            self.refuses(desk, f"{word} 9.a yy", "NoName", (9, "a"))
            self.refuses(desk, f"{word} a 9.a", "NoName", (9, "a"))
        self.refuses(desk, "line 9.a", "NoName", (9, "a"))
        self.refuses(desk, "line " + "9" * 200 + ".a", "NoName", (10**200 - 1, "a"))


class NoRows(Rows):
    def test_rows_of_no_form(self):
        desk = said(*ROWS)
        line = "1.a ann - put 0 he_says_so"
        for row in (
            "", " ", "-", "x", "Begin q", "BEGIN q", "begin", "begin ", "begin q ", "begin  q", " begin q", "begin q a b",
            "begin Q", "begin 1.a", "begin q 1.a", "begin abcdefghi", "begin q\n", "begin q -", "begin q a ",
            "do", "do a", "do a ann", "do a ann put", "do a ann put 0", "do a ann put 0 x y", "do a ann put x 0", "do a ann put 00 x",
            "do a ann put 0 X", "do a ann put 0  x", "do a ann  put 0 x", "do a ann hang 0 1 open x", "do a ann join x",
            "do a ann begin", "do A ann join", "do a Ann join", "do a ann back 0.a", "do a ann back a", "do a ann take 1",
            "do a ann put 1" + "0" * 200 + " x", "do a ann take 0 -0", "do a ann put +1 x", "do 1.a ann join", "do a ann join ",
            "do a ann settle 1" + "0" * 200 + ".a", "do a ann put 0 abcdefghijklm",
            "take", "take a", "take a ann", "take a ann b b", "take a ann 1.a", "take a  ann b", "take 1.a ann b", "take a ann B",
            "bring", "bring ", f"bring {line} ", f"bring  {line}", f"bring {line} /", f"bring / {line}", f"bring {line} / / {line}",
            f"bring {line} /{line}", f"bring {line}/ {line}", f"bring {line} /  {line}", f"bring {line}  / {line}",
            f"bring {line} / x", f"bring {line} {line}", "bring x", "bring /", "bring 1.a ann put 0 x", "bring 1.a ann - put 0",
            "bring 1.a ann - put 0 x y", f"Bring {line}", f"bring {line} | {line}", "bring -", f"bring {line} / ",
            "strike 1.a", "strike ", " strike", "strikes", "branches a", "branches ", "own a", "whole a", "whole 1.a",
            "line", "line a", "line 0.a", "line 1.a 1.a", "line 01.a", "line 1" + "0" * 200 + ".a", "line -1.a", "line 1.a ",
            "names", "names a b", "names A", "names 0.a", "names 1.A", "names a ", "names -", "tops", "remarks", "many", "text",
            "text a a", "text 1.a.b", "stand", "stand a", "stand 2.a", "stand a a", "stand a 2.a 2.a", "stand a  2.a",
            "word a", "caller a", "decided a", "answers a", "free a", "free a b", "kept a", "kept a b b", "steps a", "part a",
            "part a b ", "part a -", "kept a 0.a", "words a 2.a", "view 1.a", "now a", "take_in a ann b", "joined a b",
        ):
            self.refuses(desk, row, "NoRow", row)

    def test_ahead_of_all_else(self):
        desk = Desk()
        for row in ("begin q Q", "do q ann put x x", "do q ann take 0", "take q r 1.a", "names q r", "stand q r", "line 0.q",
                    "bring 9.a ann - put 9 x / x", "strike now", "kept q Q"):
            self.refuses(desk, row, "NoRow", row)

    def test_the_row_itself(self):
        row = " ".join(["nothing", "of", "that"])
        with self.assertRaises(NoRow) as caught:
            Desk().say(row)
        self.assertIs(caught.exception.row, row)

    def test_branches_called_as_the_words_of_rows(self):
        desk = said("begin begin", "begin do begin", "do do join put 0 put")
        self.assertEqual(desk.say("text do"), "put")
        self.assertEqual(desk.say("branches"), "begin do")
        self.assertEqual(desk.say("line 1.do"), "1.do join - put 0 put")


def any_row(chance, book):
    """A row, the deed of a book that it tells, and how its answer is written."""
    branches = list(book.branches()) + ["q", "zz"]
    branch, other = chance.choice(branches), chance.choice(branches)
    hand = chance.choice(("ann", "bob"))
    kind = chance.randrange(8)
    if kind == 0:
        return f"begin {branch}", (book.begin, branch, None), lambda told: "ok"
    if kind == 1:
        return f"begin {branch} {other}", (book.begin, branch, other), lambda told: "ok"
    if kind == 2:
        return f"take {branch} {hand} {other}", (book.take_in, branch, hand, other), name_line
    if kind == 3:
        return "strike", (book.strike,), name_line
    if kind == 4:
        ledger = rows_on((), chance.choice(("a", "xx")), ("put", 0, chance.choice("xy")), ("take", 0, 1))
        row = "bring " + " / ".join(shown_ledger(ledger))
        return row, (book.bring, ledger), lambda told: several(map(name_line, told))
    now = book.now(branch) if branch in book.branches() else ()
    deed = chance.choice(fitting_deeds(chance, now, hand))
    words = shown_change(((1, "a"), "a", (), deed)).split(" ", 3)[3]
    return f"do {branch} {hand} {words}", (book.do, branch, hand, deed), name_line


def answers_wanted(book, views):
    """Rows that only ask, and what the functions tell."""
    yield "branches", several(book.branches())
    yield "own", several(map(name_line, book.own()))
    yield "whole", several(name_line(change[0]) for change in book.whole())
    for change in book.whole():
        yield f"line {name_line(change[0])}", shown_change(change)
    for v, ledger in views.items():
        yield f"names {v}", several(name_line(change[0]) for change in ledger)
        yield f"tops {v}", several(map(name_line, tops(ledger)))
        yield f"remarks {v}", several(map(name_line, remarks(ledger)))
        yield f"many {v}", str(len(signs(ledger)))
        yield f"text {v}", text(ledger).replace(" ", "_") or "-"
        for remark in remarks(ledger):
            r = name_line(remark)
            yield f"stand {v} {r}", shown_stand(stand(ledger, remark))
            yield f"word {v} {r}", word_of(ledger, remark)
            by = caller(ledger, remark)
            yield f"caller {v} {r}", name_line(by) if by else "-"
            by = decided(ledger, remark)
            yield f"decided {v} {r}", f"{by[0]} {name_line(by[1])}" if by else "-"
            told = [",".join((name_line(n), h, letters.replace(" ", "_"))) for n, h, letters in answers(ledger, remark)]
            yield f"answers {v} {r}", several(told)
            lost = stand(ledger, remark)[0] == "lost"
            yield f"free {v} {r}", several(map(name_line, freed(ledger, remark))) if lost else "-"
        for w, other in views.items():
            yield f"kept {v} {w}", str(len(kept(signs(ledger), signs(other))))
            yield f"steps {v} {w}", str(fewest_steps(signs(ledger), signs(other)))
            yield f"part {v} {w}", "yes" if is_part(ledger, other) else "no"


class AsABookTells(unittest.TestCase):
    def asked(self, chance, desk, book):
        views = {branch: book.now(branch) for branch in book.branches()}
        views |= {name_line(change[0]): book.view(change[0]) for change in book.whole()}
        chosen = chance.sample(sorted(views), min(4, len(views)))
        for row, wanted in answers_wanted(book, {v: views[v] for v in chosen}):
            self.assertEqual(desk.say(row), wanted, row)

    def test_of_the_same_deeds(self):
        refusals = set()
        for seed in range(40):
            chance = random.Random(seed)
            desk, book = Desk(), Book()
            desk.say("begin a")
            book.begin("a", None)
            for _ in range(22):
                row, (deed, *things), written = any_row(chance, book)
                kept_as = repr(things)
                before = (book.branches(), book.whole(), book.own())
                wanted = refused(deed, *things)
                if wanted is not None:
                    refusals.add(wanted[0])
                    self.assertEqual(refused(desk.say, row), wanted)
                    self.assertEqual(before, (book.branches(), book.whole(), book.own()))
                else:
                    answer = desk.say(row)
                    came = tuple(change[0] for change in book.whole() if change not in before[1])
                    gone = tuple(change[0] for change in before[1] if change not in book.whole())
                    told = gone[0] if row == "strike" else came if row.startswith("bring") else (came or (None,))[0]
                    self.assertEqual(answer, written(told))
                self.assertEqual(repr(things), kept_as)
            self.asked(chance, desk, book)
        self.assertEqual(refusals, {"NoBranch", "NoChange", "NoJoin", "NoStrike"})

    def test_of_ledgers_that_were_brought(self):
        for seed in range(20):
            ledger = remark_ledger(seed)
            desk, book = Desk(), Book()
            book.bring(ledger)
            desk.say("bring " + " / ".join(shown_ledger(ledger)))
            self.asked(random.Random(seed), desk, book)
            for remark in remarks(ledger):
                self.assertEqual(desk.say(f"line {name_line(remark)}"), shown_change(change_of(ledger, remark)))

    def test_two_desks_by_turns(self):
        one, other = Desk(), Desk()
        for row in ROWS:
            before = state(other)
            one.say(row)
            self.assertEqual(state(other), before)
        for row in ROWS[:4]:
            before = state(one)
            other.say(row)
            self.assertEqual(state(one), before)
        self.assertEqual(state(one), state(said(*ROWS)))
        self.assertEqual(state(other), state(said(*ROWS[:4])))


if __name__ == "__main__":
    unittest.main()
