"""EXCHANGE PAPERS with as few places as can be."""

from marginwords.roads import exchanged


def exchange_paper(ledger, one, other):
    """An EXCHANGE PAPER from the one ROAD to the other."""
    # The LEDGER needn't be asked: each NAME goes only past such as stand behind it in the other
    # ROAD and ahead of it in the one, so no two that are exchanged know one another.
    road = one
    places = []
    for goal, name in enumerate(other):
        for place in range(road.index(name) - 1, goal - 1, -1):
            road = exchanged(road, place)
            places.append(place)
    return tuple(places)
