"""A look at EXCHANGE PAPERS, whoever wrote them."""

from marginwords.errors import NoPaper
from marginwords.kinds import is_place
from marginwords.knowing import knowledge
from marginwords.roads import exchanged


def lets_exchanges(ledger, one, other, thing):
    """How many places an EXCHANGE PAPER from the one ROAD to the other has."""
    if not isinstance(thing, tuple):
        raise NoPaper("shape", -1)
    for k, place in enumerate(thing):
        # A NAME has to stand behind it, too: so the last place is none of these.
        if not is_place(len(one) - 1, place):
            raise NoPaper("place", k)
    elders = knowledge(ledger)
    road = one
    for k, place in enumerate(thing):
        if road[place] in elders[road[place + 1]]:
            raise NoPaper("known", k)
        road = exchanged(road, place)
    if road != other:
        raise NoPaper("end", -1)
    return len(thing)
