"""Points [17], [18]: ROADS and EXCHANGE PAPERS."""

import copy
import itertools
import random
import unittest

from marginwords.errors import NoPaper
from marginwords.exchangechecker import lets_exchanges
from marginwords.exchanges import exchange_paper
from marginwords.roads import exchanged, is_road, road_by_names, unlike_pairs
from tests import model
from tests.ledgers import any_ledger, laid, rows_on, together

A = (1, "ann")
B, B3 = (2, "b"), (3, "b")
C = (2, "cyr")
E = (1, "eve")
START = rows_on((), "ann", ("put", 0, "abc"))
# b and cyr know ann; eve knows nothing.
LEDGER = together(
    rows_on(START, "b", ("put", 0, "d"), ("put", 0, "e")),
    rows_on(START, "cyr", ("put", 3, "f")),
    rows_on((), "eve", ("put", 0, "g")),
)
APART = together(*[laid((), word, ("put", 0, word)) for word in ("a", "b", "c", "d")])


def refusal(ledger, one, other, thing):
    try:
        lets_exchanges(ledger, one, other, thing)
    except NoPaper as wrong:
        return wrong.word, wrong.at
    return None


def any_road(seed, ledger):
    chance = random.Random(seed)
    road = []
    while len(road) < len(ledger):
        ready = [c[0] for c in ledger if c[0] not in road and model.elders(ledger, c[0]) <= set(road)]
        road.append(chance.choice(ready))
    return tuple(road)


class Roads(unittest.TestCase):
    def test_roads(self):
        for road in ((A, E, B, C, B3), (A, B, B3, C, E), (E, A, C, B, B3), (A, C, B, B3, E)):
            self.assertIs(is_road(LEDGER, road), True, road)

    def test_a_change_ahead_of_what_it_knows(self):
        for road in ((B, A, E, C, B3), (A, B3, B, C, E), (E, C, A, B, B3), (C, B3, B, E, A), (A, C, B3, E, B)):
            self.assertIs(is_road(LEDGER, road), False, road)

    def test_no_roads(self):
        for thing in (
            (A, B, B3, C), (A, B, B3, C, E, E), (A, B, B3, C, C), (A, A, B, B3, C), (A, B, B3, C, (4, "b")),
            (A, B, B3, C, E, (4, "b")), [A, B, B3, C, E], (A, B, B3, C, list(E)), ((True, "ann"), B, B3, C, E),
            (A, B, B3, C, (True, "eve")), (A, B, B3, C, (1, "eve", 0)), (A, B, B3, C, "eve"), (A, B, B3, C, None),
            (A, B, B3, C, []), (A, B, B3, C, [[]]), (A, B, B3, C, (1, ["eve"])), (A, B, B3, C, 1), ((A, B, B3, C, E),),
            (), [], None, True, "", "road", 5,
        ):
            kept = copy.deepcopy(thing)
            self.assertIs(is_road(LEDGER, thing), False, thing)
            self.assertEqual(repr(thing), repr(kept))

    def test_the_empty_ledger(self):
        self.assertIs(is_road((), ()), True)
        for thing in ([], None, (A,), ((),), False, ""):
            self.assertIs(is_road((), thing), False)
        self.assertEqual(road_by_names(()), ())
        self.assertEqual(unlike_pairs((), ()), 0)
        self.assertEqual(exchange_paper((), (), ()), ())
        self.assertEqual(lets_exchanges((), (), (), ()), 0)

    def test_road_by_names(self):
        self.assertEqual(road_by_names(LEDGER), (A, E, B, C, B3))
        self.assertIs(type(road_by_names(LEDGER)), tuple)

    def test_each_row_of_the_names(self):
        for ledger in (LEDGER, APART, START):
            right = set(model.roads(ledger))
            for row in itertools.permutations(road_by_names(ledger)):
                self.assertIs(is_road(ledger, row), row in right)

    def test_exchanged(self):
        road = (A, E, B, C, B3)
        self.assertEqual(exchanged(road, 0), (E, A, B, C, B3))
        self.assertEqual(exchanged(road, 2), (A, E, C, B, B3))
        self.assertEqual(exchanged(road, 3), (A, E, B, B3, C))
        self.assertEqual(exchanged((A, B), 0), (B, A))
        self.assertEqual(road, (A, E, B, C, B3))

    def test_exchanged_is_a_road_just_where_the_one_is_not_known(self):
        for seed in range(30):
            ledger = any_ledger(seed, most=8)
            road = any_road(seed, ledger)
            for k in range(len(road) - 1):
                wanted = road[k] not in model.elders(ledger, road[k + 1])
                self.assertIs(is_road(ledger, exchanged(road, k)), wanted)

    def test_unlike_pairs(self):
        road = (A, E, B, C, B3)
        self.assertEqual(unlike_pairs(road, road), 0)
        self.assertEqual(unlike_pairs(road, (E, A, B, C, B3)), 1)
        self.assertEqual(unlike_pairs(road, (A, B, B3, C, E)), 4)
        self.assertEqual(unlike_pairs((A, B, B3, C, E), road), 4)
        names = road_by_names(APART)
        self.assertEqual(unlike_pairs(names, names[::-1]), 6)
        for one, other in itertools.product(list(model.roads(LEDGER)), repeat=2):
            self.assertEqual(unlike_pairs(one, other), model.unlike_pairs(one, other))


class Exchanges(unittest.TestCase):
    def test_papers_that_lead_there(self):
        one, other = (A, E, B, C, B3), (E, A, C, B, B3)
        for paper in ((0, 2), (2, 0), (0, 0, 0, 2), (2, 2, 0, 3, 3, 2)):
            self.assertEqual(lets_exchanges(LEDGER, one, other, paper), len(paper))
        self.assertEqual(lets_exchanges(LEDGER, one, one, ()), 0)
        self.assertEqual(lets_exchanges(LEDGER, one, one, (0, 0)), 2)

    def test_shape(self):
        road = (A, E, B, C, B3)
        for thing in (None, [], [0], [0, 0], "", "00", 0, 1, True, False):
            self.assertEqual(refusal(LEDGER, road, road, thing), ("shape", -1))

    def test_place(self):
        road = (A, E, B, C, B3)
        for odd in (-1, 4, 5, 10**199, -(10**199), True, False, None, "0", (), (0,), [], [0]):
            self.assertEqual(refusal(LEDGER, road, road, (odd,)), ("place", 0))
            self.assertEqual(refusal(LEDGER, road, road, (0, 0, odd, odd)), ("place", 2))
        self.assertEqual(refusal(START, (A,), (A,), (0,)), ("place", 0))
        self.assertEqual(refusal((), (), (), (0,)), ("place", 0))
        self.assertEqual(refusal((), (), (), (-1,)), ("place", 0))

    def test_known(self):
        road = (A, E, B, C, B3)
        # A and B stand side by side only when E has gone ahead.
        self.assertEqual(refusal(LEDGER, road, road, (1,)), ("end", -1))
        self.assertEqual(refusal(LEDGER, road, road, (0, 1)), ("known", 1))
        self.assertEqual(refusal(LEDGER, road, road, (2, 2, 2, 3)), ("known", 3))
        self.assertEqual(refusal(LEDGER, (A, B, B3, C, E), road, (0, 1)), ("known", 0))
        self.assertEqual(refusal(LEDGER, (A, B, B3, C, E), road, (2, 1)), ("end", -1))
        self.assertEqual(refusal(LEDGER, (A, B, B3, C, E), road, (2, 2, 1)), ("known", 2))

    def test_known_by_way_of_another(self):
        ledger = together(rows_on(START, "b", ("put", 0, "d"), ("put", 0, "e")))
        road = (A, B, B3)
        self.assertEqual(refusal(ledger, road, road, (0,)), ("known", 0))
        self.assertEqual(refusal(ledger, road, road, (1, 1)), ("known", 0))

    def test_end(self):
        road = (A, E, B, C, B3)
        self.assertEqual(refusal(LEDGER, road, (E, A, B, C, B3), ()), ("end", -1))
        self.assertEqual(refusal(LEDGER, road, (E, A, B, C, B3), (0, 0)), ("end", -1))
        self.assertEqual(refusal(LEDGER, road, road, (0,)), ("end", -1))

    def test_two_due_at_once(self):
        road = (A, E, B, C, B3)
        self.assertEqual(refusal(LEDGER, road, road, (0, 1, 0, 9)), ("place", 3))
        self.assertEqual(refusal(LEDGER, road, road, (0, 1, True)), ("place", 2))
        self.assertEqual(refusal(LEDGER, road, (E, A, B, C, B3), (0, 1)), ("known", 1))
        self.assertEqual(refusal(LEDGER, road, road, [9]), ("shape", -1))

    def test_told_papers_are_let_by_with_as_few_places_as_can_be(self):
        for ledger in (LEDGER, APART, START):
            for one, other in itertools.product(list(model.roads(ledger)), repeat=2):
                paper = exchange_paper(ledger, one, other)
                self.assertIs(type(paper), tuple)
                self.assertEqual(lets_exchanges(ledger, one, other, paper), model.unlike_pairs(one, other))
                self.assertEqual(len(paper), unlike_pairs(one, other))

    def test_told_papers_of_many_ledgers(self):
        for seed in range(60):
            ledger = any_ledger(seed, most=16, branches=6)
            one, other = any_road(seed, ledger), any_road(seed + 1000, ledger)
            kept = repr((ledger, one, other))
            paper = exchange_paper(ledger, one, other)
            self.assertEqual(lets_exchanges(ledger, one, other, paper), model.unlike_pairs(one, other))
            self.assertEqual(lets_exchanges(ledger, one, other, paper), len(paper))
            self.assertEqual(lets_exchanges(ledger, other, one, paper[::-1]), len(paper))
            self.assertEqual(repr((ledger, one, other)), kept)

    def test_any_papers_by_the_words_of_the_document(self):
        chance = random.Random(5)
        words = set()
        for seed in range(300):
            ledger = any_ledger(seed % 40, most=7)
            one, other = any_road(seed, ledger), any_road(seed + 1000, ledger)
            paper = tuple(chance.randint(0, max(0, len(one) - 2)) for _ in range(chance.randint(0, 6)))
            if seed % 3 == 0:
                paper += exchange_paper(ledger, led_to(one, paper), other)
            wanted = wanted_refusal(ledger, one, other, paper)
            words.add(wanted and wanted[0])
            self.assertEqual(refusal(ledger, one, other, paper), wanted)
            if wanted is None:
                self.assertGreaterEqual(len(paper), unlike_pairs(one, other))
        self.assertEqual(words, {None, "place", "known", "end"})

    def test_papers_stay_as_they_were(self):
        road = (A, E, B, C, B3)
        for thing in ([0, [0]], (0, [1]), ((0, [0]),)):
            kept = copy.deepcopy(thing)
            self.assertEqual(refusal(LEDGER, road, road, thing), refusal(LEDGER, road, road, thing))
            self.assertEqual(thing, kept)


def led_to(road, paper):
    row = list(road)
    for place in paper:
        if place + 1 < len(row):
            row[place], row[place + 1] = row[place + 1], row[place]
    return tuple(row)


def wanted_refusal(ledger, one, other, paper):
    for k, place in enumerate(paper):
        if place > len(one) - 2:
            return "place", k
    for k, place in enumerate(paper):
        row = led_to(one, paper[:k])
        if row[place] in model.elders(ledger, row[place + 1]):
            return "known", k
    return None if led_to(one, paper) == other else ("end", -1)


if __name__ == "__main__":
    unittest.main()
