"""A look at LEDGERS, whoever wrote them."""

from marginwords.changes import is_change
from marginwords.errors import NoPaper
from marginwords.fitting import misfit_of
from marginwords.kinds import is_rising
from marginwords.knowing import elders_by, next_count
from marginwords.traces import past_of, text_of, trace_of


def lets_ledger(thing):
    """True where the thing is a LEDGER."""
    if not isinstance(thing, tuple):
        raise NoPaper("shape", -1)
    # Of the entries ahead, under their NAMES: what each knows, and its TRACE.
    known_to = {}
    found = {}
    for k, entry in enumerate(thing):
        if not is_change(entry):
            raise NoPaper("change", k)
        name, hand, base, deed = entry
        if k > 0 and name <= thing[k - 1][0]:
            raise NoPaper("rise", k)
        if not is_base_on(known_to, base):
            raise NoPaper("base", k)
        elders = elders_by(base, known_to)
        if name[0] != next_count(elders):
            raise NoPaper("count", k)
        if any(ahead[1] == name[1] and ahead not in elders for ahead in known_to):
            raise NoPaper("branch", k)
        past = past_of(elders, found)
        before = tuple(ahead for ahead in thing[:k] if ahead[0] in elders)
        if misfit_of(before, len(text_of(past)), hand, deed) is not None:
            raise NoPaper("deed", k)
        known_to[name] = elders
        found[name] = trace_of(name, deed, past, found)
    return True


def is_base_on(known_to, base):
    """Whether it rises, names entries ahead only, and none that another one of it knows."""
    if not is_rising(base):
        return False
    if not all(name in known_to for name in base):
        return False
    return not any(name in known_to[other] for name in base for other in base)
