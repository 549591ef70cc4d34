"""What each CHANGE of a LEDGER did to the text of what is KNOWN to it.

The TRACE of a CHANGE is a tuple (rows, taken, brought): rows (slot, parent, sign) of the SLOTS that it laid,
the SIGNS that it took, the SIGNS that it brought back. A PAST is a list of the TRACES of a LEDGER, by names rising.
"""

from marginwords.knowing import knowledge

NO_TRACE = ((), (), ())


def order_of(rows):
    """The ORDER of SLOTS, of their rows rising."""
    # Under each SLOT the one right behind it, under () the first one.
    behind = {}
    for slot, parent, sign in rows:
        # The greatest name so far goes ahead of all else beneath its PARENT: right behind this.
        behind[slot] = behind.get(parent)
        behind[parent] = slot
    order = []
    slot = behind.get(())
    while slot is not None:
        order.append(slot)
        slot = behind[slot]
    return order


def rows_of(past):
    """The rows of all SLOTS that were laid, rising."""
    return [row for rows, taken, brought in past for row in rows]


def slots_of(past):
    """Under each SIGN the SLOT in which it stands."""
    # Rows rise, so of a SIGN that was moved the greatest move comes last.
    return {sign: slot for slot, parent, sign in rows_of(past)}


def hidden_of(past):
    """Under each SIGN that was ever taken whether the last of its TOUCHES is a take."""
    hidden = {}
    for rows, taken, brought in past:
        for sign in taken:
            hidden[sign] = True
        for sign in brought:
            hidden[sign] = False
    return hidden


def text_of(past):
    """The SIGNS of the TEXT, in their order."""
    slots = slots_of(past)
    hidden = hidden_of(past)
    standing = {slots[sign]: sign for sign in slots if not hidden.get(sign, False)}
    return [standing[slot] for slot in order_of(rows_of(past)) if slot in standing]


def parent_at(past, place):
    """The PARENT of what is put in at this place of the text."""
    if place == 0:
        return ()
    return slots_of(past)[text_of(past)[place - 1]]


def signs_of(name, deed):
    """The SIGNS of the put of this NAME."""
    return [(name[0], name[1], k) for k in range(len(deed[2]))]


def laid_rows(name, parent, signs):
    """The rows of the SLOTS that a CHANGE lays for these SIGNS."""
    rows = []
    ahead = parent
    for k, sign in enumerate(signs):
        slot = (name[0], name[1], k)
        rows.append((slot, ahead, sign))
        ahead = slot
    return tuple(rows)


def trace_of(name, deed, past, found):
    """The TRACE of one CHANGE, of the PAST of what is KNOWN to it and of the TRACES found under their NAMES."""
    if deed[0] == "put":
        return (laid_rows(name, parent_at(past, deed[1]), signs_of(name, deed)), (), ())
    if deed[0] == "move":
        moved = text_of(past)[deed[1]:deed[2]]
        return (laid_rows(name, parent_at(past, deed[3]), moved), (), ())
    if deed[0] == "take":
        return ((), tuple(text_of(past)[deed[1]:deed[2]]), ())
    if deed[0] == "back":
        return ((), (), found[deed[1]][1])
    return NO_TRACE


def past_of(elders, found):
    """The PAST of these elders, of the TRACES found under their NAMES, which rise."""
    return [found[name] for name in found if name in elders]


def traces(ledger):
    """The TRACES of all CHANGES of a LEDGER, under their NAMES, which rise."""
    elders = knowledge(ledger)
    found = {}
    for name, hand, base, deed in ledger:
        past = past_of(elders[name], found)
        found[name] = trace_of(name, deed, past, found)
    return found


def whole_past(ledger):
    """The PAST of a LEDGER."""
    return list(traces(ledger).values())
