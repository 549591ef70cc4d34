"""LEDGERS for the tests: made by hand, or by a row of numbers from a seed.

Written by the words of the document alone; nothing here asks the program.
"""

import random

from tests import model


def change_on(ledger, branch, deed, hand="ann"):
    """The CHANGE of a branch that knows all of the LEDGER."""
    count = 1 + max([change[0][0] for change in ledger], default=0)
    return ((count, branch), hand, model.tops(ledger), deed)


def laid(ledger, branch, deed, hand="ann"):
    """The LEDGER with a CHANGE more, that knows all of it."""
    return together(ledger, (change_on(ledger, branch, deed, hand),))


def together(*ledgers):
    """The CHANGES of all of these, rising."""
    found = {}
    for ledger in ledgers:
        for change in ledger:
            assert found.get(change[0], change) == change
            found[change[0]] = change
    return tuple(found[name] for name in sorted(found))


def rows_on(ledger, branch, *deeds, hand="ann"):
    """The LEDGER with a row of CHANGES more, each of which knows all ahead of it."""
    for deed in deeds:
        ledger = laid(ledger, branch, deed, hand)
    return ledger


def fitting_deeds(chance, ledger, hand="ann"):
    """Some DEEDS that fit, by this hand, where the LEDGER is what is known."""
    n = len(model.text(ledger))
    deeds = []
    deeds.append(("put", chance.randint(0, n), "".join(chance.choice("abc ") for _ in range(chance.randint(1, 4)))))
    deeds.append(deeds[0])
    if n:
        i = chance.randint(0, n - 1)
        j = chance.randint(i + 1, min(n, i + 4))
        deeds.append(("take", i, j))
        places = [q for q in range(n + 1) if q < i or q > j]
        if places:
            deeds += [("move", i, j, chance.choice(places))] * 2
        deeds.append(("hang", i, j, chance.choice(("shut", "wide")), "why"))
    takes = [change[0] for change in ledger if change[3][0] == "take"]
    if takes:
        deeds += [("back", chance.choice(takes))] * 2
    return deeds + said_deeds(chance, ledger, hand)


def said_deeds(chance, ledger, hand):
    """Some DEEDS that fit and say something of what was hung or answered."""
    named = [change[0] for change in ledger if change[3][0] in ("hang", "answer")]
    if not named:
        return []
    name = chance.choice(named)
    deeds = [("answer", name, "no"), ("settle", name), ("open", name), ("unsay", name)]
    return [deed for deed in deeds if model.misfit(ledger, hand, deed) is None]


def any_ledger(seed, most=12, branches=4, start=()):
    """A right LEDGER of several branches, all begun at the start, which take one another in now and then."""
    chance = random.Random(seed)
    words = ["ann", "b", "cyr", "dd", "eve", "f"][: chance.randint(1, branches)]
    now = {word: start for word in words}
    for _ in range(chance.randint(1, most)):
        word = chance.choice(words)
        other = chance.choice(words)
        hand = chance.choice(("ann", "bob"))
        both = together(now[word], now[other])
        if len(model.tops(both)) > 1 and chance.randint(0, 2):
            now[word] = laid(both, word, ("join",), hand)
        elif not now[word] and now[other]:
            now[word] = laid(now[other], word, chance.choice(fitting_deeds(chance, now[other], hand)), hand)
        else:
            now[word] = laid(now[word], word, chance.choice(fitting_deeds(chance, now[word], hand)), hand)
    return together(*now.values())


def remark_ledger(seed, most=11):
    """A right LEDGER that has a REMARK, and branches that began ahead of it."""
    start = rows_on((), "ann", ("put", 0, "abcdefgh"))
    chance = random.Random(seed)
    if chance.randint(0, 1):
        start = rows_on(start, "ann", ("take", 2, 4), ("move", 0, 1, 5))
    i = chance.randint(0, 3)
    edge = chance.choice(("shut", "wide"))
    hung = laid(start, "hh", ("hang", i, i + chance.randint(1, 3), edge, "why"), chance.choice(("ann", "bob")))
    others = any_ledger(seed, most, 3, start)
    if chance.randint(0, 1):
        return together(hung, others)
    return together(others, any_ledger(seed + 1000, 3, 1, laid(together(hung, others), "gg", ("join",))))


def part_of(seed, ledger):
    """A LEDGER in this one, some of its CHANGES left out with all that know them."""
    chance = random.Random(seed)
    gone = {change[0] for change in ledger if chance.randint(0, 4) == 0}
    return tuple(
        change
        for change in ledger
        if change[0] not in gone and not gone & model.elders(ledger, change[0])
    )
