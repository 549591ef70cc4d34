"""A look at HOLD PAPERS, whoever wrote them."""

from marginwords.errors import NoPaper
from marginwords.holding import hold_entries
from marginwords.kinds import is_just, is_tuple_of, is_two_tuples
from marginwords.order import slot_order
from marginwords.spans import hang_of


def lets_held(ledger, remark, thing):
    """The SIGNS that the REMARK holds, rising, where the thing is its HOLD PAPER."""
    hang_of(ledger, remark)
    look_at_shape(thing)
    order, entries = thing
    right = hold_entries(ledger, remark)
    if len(entries) != len(right):
        raise NoPaper("many", -1)
    if not is_just(order, slot_order(ledger)):
        raise NoPaper("order", -1)
    for k, (sign, word, slot) in enumerate(right):
        if not is_just(entries[k][0], sign):
            raise NoPaper("sign", k)
        if not is_just(entries[k][2], slot):
            raise NoPaper("within", k)
        if not is_just(entries[k][1], word):
            raise NoPaper("word", k)
    return tuple(sign for sign, word, slot in right if word != "out")


def look_at_shape(thing):
    """Refuse what is no tuple of two tuples, the second one of tuples of three."""
    if not is_two_tuples(thing):
        raise NoPaper("shape", -1)
    for k, entry in enumerate(thing[1]):
        if not is_tuple_of(3, entry):
            raise NoPaper("shape", k)
