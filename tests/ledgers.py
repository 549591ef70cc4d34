"""LEDGERS for the tests: made by hand, or by a row of numbers from a seed.

Written by the words of the document alone; nothing here asks the program.
"""

import random

from tests import model


def change_on(ledger, branch, deed, hand="ann"):
    """The CHANGE of a branch that knows all of the LEDGER."""
    count = 1 + max([change[0][0] for change in ledger], default=0)
    return ((count, branch), hand, model.tops(ledger), deed)


def laid(ledger, branch, deed, hand="ann"):
    """The LEDGER with a CHANGE more, that knows all of it."""
    return together(ledger, (change_on(ledger, branch, deed, hand),))


def together(*ledgers):
    """The CHANGES of all of these, rising."""
    found = {}
    for ledger in ledgers:
        for change in ledger:
            assert found.get(change[0], change) == change
            found[change[0]] = change
    return tuple(found[name] for name in sorted(found))


def rows_on(ledger, branch, *deeds, hand="ann"):
    """The LEDGER with a row of CHANGES more, each of which knows all ahead of it."""
    for deed in deeds:
        ledger = laid(ledger, branch, deed, hand)
    return ledger


def fitting_deeds(chance, ledger):
    """Some DEEDS that fit where the LEDGER is what is known."""
    n = len(model.text(ledger))
    deeds = []
    deeds.append(("put", chance.randint(0, n), "".join(chance.choice("abc ") for _ in range(chance.randint(1, 4)))))
    deeds.append(deeds[0])
    if n:
        i = chance.randint(0, n - 1)
        j = chance.randint(i + 1, min(n, i + 4))
        deeds.append(("take", i, j))
        places = [q for q in range(n + 1) if q < i or q > j]
        if places:
            deeds += [("move", i, j, chance.choice(places))] * 2
        deeds.append(("hang", i, j, chance.choice(("shut", "wide")), "why"))
    takes = [change[0] for change in ledger if change[3][0] == "take"]
    if takes:
        deeds += [("back", chance.choice(takes))] * 2
    hangs = [change[0] for change in ledger if change[3][0] == "hang"]
    if hangs:
        deeds.append(("settle", chance.choice(hangs)))
    return deeds


def any_ledger(seed, most=12, branches=4):
    """A right LEDGER of several branches, which take one another in now and then."""
    chance = random.Random(seed)
    words = ["ann", "b", "cyr", "dd", "eve", "f"][: chance.randint(1, branches)]
    now = {word: () for word in words}
    for _ in range(chance.randint(1, most)):
        word = chance.choice(words)
        other = chance.choice(words)
        both = together(now[word], now[other])
        if len(model.tops(both)) > 1 and chance.randint(0, 2):
            now[word] = laid(both, word, ("join",))
        elif not now[word] and now[other]:
            now[word] = laid(now[other], word, chance.choice(fitting_deeds(chance, now[other])))
        else:
            now[word] = laid(now[word], word, chance.choice(fitting_deeds(chance, now[word])))
    return together(*now.values())


def part_of(seed, ledger):
    """A LEDGER in this one, some of its CHANGES left out with all that know them."""
    chance = random.Random(seed)
    gone = {change[0] for change in ledger if chance.randint(0, 4) == 0}
    return tuple(
        change
        for change in ledger
        if change[0] not in gone and not gone & model.elders(ledger, change[0])
    )
