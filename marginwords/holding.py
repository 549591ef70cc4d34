"""What a REMARK holds, and how."""

from marginwords.knowing import known, knowledge
from marginwords.laying import slot_rows
from marginwords.showing import all_signs
from marginwords.spans import hang_of, slots_in_span
from marginwords.traces import slots_of, text_of, whole_past


def strange_moves(ledger, remark):
    """The NAMES of the moves that aren't KNOWN to the REMARK, as keys of a dict."""
    elders = knowledge(ledger)[remark]
    return {name: True for name, hand, base, deed in ledger if deed[0] == "move" and name not in elders}


def next_slot(slot):
    """The SLOT that the same CHANGE laid next, where it laid one more."""
    return (slot[0], slot[1], slot[2] + 1)


def row_above(parents, moves, slot):
    """WITHIN which row of these moves a SLOT stands: the SLOT that [5] tells, or ()."""
    here = slot
    above = parents[here]
    while above != ():
        behind = next_slot(above)
        if above[:2] in moves and behind in parents and here != behind:
            return above
        here = above
        above = parents[here]
    return ()


def within(ledger, remark, slot):
    """WITHIN which row of a move that isn't KNOWN to the REMARK a SLOT stands, () where there is none."""
    hang_of(ledger, remark)
    parents = {laid: parent for laid, parent, sign in slot_rows(ledger)}
    return row_above(parents, strange_moves(ledger, remark), slot)


def known_words(ledger, remark, inside):
    """Under each SIGN that is KNOWN to the REMARK its word; inside are the SLOTS in the SPAN."""
    word, i, j, edge, letters = hang_of(ledger, remark)[3]
    past = whole_past(known(ledger, remark))
    slots = slots_of(past)
    shown = text_of(past)
    words = {sign: "span" if slots[sign] in inside else "out" for sign in slots}
    for place, sign in enumerate(shown):
        words[sign] = "stretch" if i <= place < j else "out"
    return words


def row_word(words, laid, row):
    """The word of a SIGN that stands WITHIN a row at this SLOT, of the words of lesser SIGNS."""
    both = (laid[row], laid[next_slot(row)])
    return "out" if "out" in (words[both[0]], words[both[1]]) else "row"


def hold_entries(ledger, remark):
    """The entries of the HOLD PAPER: (sign, word, slot) for each SIGN, rising."""
    inside = slots_in_span(ledger, remark)
    words = known_words(ledger, remark, inside)
    moves = strange_moves(ledger, remark)
    rows = slot_rows(ledger)
    parents = {slot: parent for slot, parent, sign in rows}
    laid = {slot: sign for slot, parent, sign in rows}
    entries = []
    # SIGNS rise, so the words by which a row is judged have been found already.
    for sign in all_signs(ledger):
        row = ()
        if sign not in words:
            # The SLOT that a put lays for a SIGN is written as the SIGN itself.
            row = row_above(parents, moves, sign)
            if row == ():
                words[sign] = "span" if sign in inside else "out"
            else:
                words[sign] = row_word(words, laid, row)
        entries.append((sign, words[sign], row))
    return entries


def hold_word(ledger, remark, sign):
    """The word of how a SIGN is HELD: stretch, span, row or out."""
    words = {each: word for each, word, row in hold_entries(ledger, remark)}
    return words[sign]


def held(ledger, remark):
    """The SIGNS that the REMARK holds, rising."""
    return tuple(sign for sign, word, row in hold_entries(ledger, remark) if word != "out")
