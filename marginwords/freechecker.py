"""A look at FREE PAPERS, whoever wrote them."""

from marginwords.errors import NoPaper
from marginwords.holding import held
from marginwords.kinds import is_name, is_rising, is_tuple_of, is_two_tuples
from marginwords.knowing import knowledge, without
from marginwords.losing import rows_of_held
from marginwords.spans import hang_of
from marginwords.stands import stand


def lets_free(ledger, remark, thing):
    """How many NAMES a FREE PAPER of the REMARK has, where the thing is one."""
    hang_of(ledger, remark)
    if not is_two_tuples(thing):
        raise NoPaper("shape", -1)
    names, rows = thing
    elders = knowledge(ledger)
    look_at_names(elders, remark, names)
    if stand(without(ledger, names), remark)[0] != "there":
        raise NoPaper("away", -1)
    last = rows_of_held(ledger, held(ledger, remark))
    if len(rows) != len(last):
        raise NoPaper("rows", -1)
    for k, row in enumerate(rows):
        if not is_free_row(row):
            raise NoPaper("row", k)
    for k, (word, told) in enumerate(rows):
        if word == "known":
            look_at_known(elders[remark], last[k], told, k)
        else:
            look_at_going(elders, last[k], told, len(names), k)
    return len(names)


def look_at_names(elders, remark, names):
    """Refuse what are no NAMES, rising, of CHANGES that can be left out, each with all that know it."""
    for k, name in enumerate(names):
        if not is_name(name) or name not in elders or (k > 0 and name <= names[k - 1]):
            raise NoPaper("name", k)
    for k, name in enumerate(names):
        if name == remark or name in elders[remark]:
            raise NoPaper("known", k)
    for k, name in enumerate(names):
        if any(name in elders[each] and each not in names for each in elders):
            raise NoPaper("alone", k)


def is_free_row(thing):
    """Whether it is, by kind, a tuple ("known", take) or ("go", pairs)."""
    if not is_tuple_of(2, thing):
        return False
    word, told = thing
    if word == "known":
        return is_name(told)
    return word == "go" and isinstance(told, tuple) and all(is_name_pair(pair) for pair in told)


def is_name_pair(thing):
    """Whether it is a tuple of two NAMES."""
    return is_tuple_of(2, thing) and is_name(thing[0]) and is_name(thing[1])


def look_at_known(inside, row, take, k):
    """Refuse a take that isn't of the LAST ROW, or not KNOWN to the REMARK."""
    if take not in row or take not in inside:
        raise NoPaper("take", k)


def look_at_going(elders, row, pairs, many, k):
    """Refuse pairs that don't rise, don't go with the LAST ROW, or are too few."""
    if not is_rising([name for name, take in pairs]):
        raise NoPaper("rise", k)
    for name, take in pairs:
        if take not in row or name not in elders or not (name == take or take in elders[name]):
            raise NoPaper("take", k)
    if len(pairs) < many:
        raise NoPaper("few", k)
