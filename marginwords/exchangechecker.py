"""A look at EXCHANGE PAPERS, whoever wrote them."""

from marginwords.errors import NoPaper
from marginwords.kinds import is_number
from marginwords.knowing import knowledge
from marginwords.roads import exchanged


def is_place(road, thing):
    """Whether NAMES of the ROAD stand at this place and at the next one."""
    return is_number(thing) and 0 <= thing <= len(road) - 2


def lets_exchanges(ledger, one, other, thing):
    """How many places an EXCHANGE PAPER from the one ROAD to the other has."""
    if not isinstance(thing, tuple):
        raise NoPaper("shape", -1)
    for k, place in enumerate(thing):
        if not is_place(one, place):
            raise NoPaper("place", k)
    elders = knowledge(ledger)
    road = one
    for k, place in enumerate(thing):
        if road[place] in elders[road[place + 1]]:
            raise NoPaper("known", k)
        road = exchanged(road, place)
    if road != other:
        raise NoPaper("end", -1)
    return len(thing)
