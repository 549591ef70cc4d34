"""The words of points [3] to [5], [15] to [17], [25], [26], [37] to [48], [59] once more, as slowly as can be.

The tests hold the program against it; nothing here asks the program.
"""

import functools
import itertools


def by_name(ledger):
    return {change[0]: change for change in ledger}


def elders(ledger, name):
    """The set of the NAMES that the CHANGE of this NAME knows."""
    found = set()
    for elder in by_name(ledger)[name][2]:
        found |= {elder} | elders(ledger, elder)
    return found


def known(ledger, name):
    inside = elders(ledger, name)
    return tuple(change for change in ledger if change[0] in inside)


def tops(ledger):
    inside = set()
    for change in ledger:
        inside |= elders(ledger, change[0])
    return tuple(sorted({change[0] for change in ledger} - inside))


def roads(ledger):
    """All ROADS of a small LEDGER."""
    names = [change[0] for change in ledger]
    for road in itertools.permutations(names):
        if all(road.index(elder) < road.index(name) for name in names for elder in elders(ledger, name)):
            yield road


def unlike_pairs(one, other):
    return sum(
        (one.index(a) < one.index(b)) != (other.index(a) < other.index(b))
        for a, b in itertools.combinations(one, 2)
    )


def join_refusal(one, other):
    """None, or the (name, word) with which it is refused that two LEDGERS are joined."""
    ours, theirs = by_name(one), by_name(other)
    every = sorted(set(ours) | set(theirs))
    for name in every:
        if name in ours and name in theirs and ours[name] != theirs[name]:
            return name, "unlike"
        home = one if name in ours else other
        lesser = [each for each in every if each[1] == name[1] and each < name]
        if any(each not in elders(home, name) for each in lesser):
            return name, "branch"
    return None


def deed_of(ledger, name):
    return by_name(ledger)[name][3]


@functools.lru_cache(maxsize=None)
def slot_rows(ledger):
    """The rising tuple of (slot, parent, sign)."""
    rows = []
    for name, _, _, deed in ledger:
        if deed[0] not in ("put", "move"):
            continue
        before = known(ledger, name)
        shown = text(before)
        if deed[0] == "put":
            place, moved = deed[1], [(*name, k) for k in range(len(deed[2]))]
        else:
            place, moved = deed[3], shown[deed[1] : deed[2]]
        parent = () if place == 0 else slot_of(before, shown[place - 1])
        for k, sign in enumerate(moved):
            rows.append(((*name, k), parent, sign))
            parent = (*name, k)
    return tuple(sorted(rows))


@functools.lru_cache(maxsize=None)
def order(ledger):
    """The ORDER, by walking down from () through all that is beneath."""
    beneath = {}
    for slot, parent, _ in slot_rows(ledger):
        beneath.setdefault(parent, []).append(slot)

    def walk(slot):
        found = [] if slot == () else [slot]
        for child in sorted(beneath.get(slot, []), reverse=True):
            found += walk(child)
        return found

    return tuple(walk(()))


def signs(ledger):
    return tuple(slot for slot, _, sign in slot_rows(ledger) if slot == sign)


def moves_of(ledger, sign):
    return tuple(slot[:2] for slot, _, moved in slot_rows(ledger) if moved == sign and slot != sign)


def slot_of(ledger, sign):
    moves = moves_of(ledger, sign)
    if not moves:
        return sign
    (slot,) = [slot for slot, _, moved in slot_rows(ledger) if moved == sign and slot[:2] == max(moves)]
    return slot


def taken(ledger, name):
    """The SIGNS that the take of this NAME took."""
    _, i, j = deed_of(ledger, name)
    return text(known(ledger, name))[i:j]


def touches(ledger, sign):
    takes = {
        change[0] for change in ledger if change[3][0] == "take" and sign in taken(ledger, change[0])
    }
    backs = {change[0] for change in ledger if change[3][0] == "back" and change[3][1] in takes}
    return tuple(sorted(takes | backs))


def is_shown(ledger, sign):
    found = touches(ledger, sign)
    return not found or deed_of(ledger, found[-1])[0] == "back"


@functools.lru_cache(maxsize=None)
def text(ledger):
    """The SIGNS of the TEXT, in their order."""
    standing = {slot_of(ledger, sign): sign for sign in signs(ledger) if is_shown(ledger, sign)}
    return tuple(standing[slot] for slot in order(ledger) if slot in standing)


def letters(ledger):
    """The letters of the TEXT."""
    return "".join(deed_of(ledger, sign[:2])[2][sign[2]] for sign in text(ledger))


def said(ledger, words, name):
    """The NAMES of the CHANGES that say one of these words of this NAME, rising."""
    return [change[0] for change in ledger if change[3][0] in words and change[3][1] == name]


def misfit(ledger, hand, deed):
    """Each word of [25] asked of each DEED, in their order."""
    n = len(text(ledger))
    spoken = {"back": ["take"], "answer": ["hang"], "settle": ["hang"], "open": ["hang"], "unsay": ["hang", "answer"]}
    if deed[0] in spoken:
        named = by_name(ledger).get(deed[1])
        if not named or named[3][0] not in spoken[deed[0]]:
            return "name"
        whole = [deed[1]] + ([named[3][1]] if named[3][0] == "answer" else [])
        if any(said(ledger, ["unsay"], name) for name in whole):
            return "gone"
        if deed[0] == "unsay" and named[1] != hand:
            return "hand"
    if deed[0] == "put" and deed[1] not in range(n + 1):
        return "place"
    if deed[0] in ("take", "hang", "move"):
        i, j = deed[1], deed[2]
        if i not in range(n) or j not in range(i + 1, n + 1):
            return "place"
        if deed[0] == "move" and deed[3] not in [*range(i), *range(j + 1, n + 1)]:
            return "place"
    if deed[0] == "open":
        decisions = said(ledger, ["settle", "open"], deed[1])
        if not decisions or deed_of(ledger, decisions[-1])[0] != "settle":
            return "open"
    if deed[0] == "join" and len(tops(ledger)) < 2:
        return "join"
    return None


def ledger_refusal(thing):
    """None, or the (word, at) with which [26] refuses a tuple of CHANGES by kind."""
    for k, (name, hand, base, deed) in enumerate(thing):
        ahead = thing[:k]
        names = [change[0] for change in ahead]
        if k and not names[-1] < name:
            return "rise", k
        if list(base) != sorted(set(base)) or not set(base) <= set(names):
            return "base", k
        inside = set(base).union(*[elders(ahead, each) for each in base])
        before = tuple(change for change in ahead if change[0] in inside)
        if base != tops(before):
            return "base", k
        if name[0] != max([each[0] for each in inside], default=0) + 1:
            return "count", k
        if any(each[1] == name[1] and each not in inside for each in names):
            return "branch", k
        if misfit(before, hand, deed) is not None:
            return "deed", k
    return None


def remarks(ledger):
    return tuple(change[0] for change in ledger if change[3][0] == "hang")


def span(ledger, remark):
    _, i, j, edge, _ = deed_of(ledger, remark)
    before = known(ledger, remark)
    bounds = {place: slot_of(before, sign) for place, sign in enumerate(text(before))}
    if edge == "shut":
        return edge, bounds[i], bounds[j - 1]
    return edge, bounds.get(i - 1, ()), bounds.get(j, ())


def in_span(ledger, remark, slot):
    edge, first, last = span(ledger, remark)
    place = {each: k for k, each in enumerate(order(ledger))}
    if edge == "shut":
        return place[first] <= place[slot] <= place[last]
    return (first == () or place[first] < place[slot]) and (last == () or place[slot] < place[last])


def within(ledger, remark, slot):
    parents = {each: parent for each, parent, _ in slot_rows(ledger)}
    above = parents[slot]
    if above == ():
        return ()
    name, following = above[:2], (*above[:2], above[2] + 1)
    strange = deed_of(ledger, name)[0] == "move" and name not in elders(ledger, remark)
    if strange and following in parents and slot != following:
        return above
    return within(ledger, remark, above)


@functools.lru_cache(maxsize=None)
def hold_word(ledger, remark, sign):
    _, i, j, _, _ = deed_of(ledger, remark)
    before = known(ledger, remark)
    if sign in signs(before):
        if sign in text(before):
            return "stretch" if sign in text(before)[i:j] else "out"
        return "span" if in_span(ledger, remark, slot_of(before, sign)) else "out"
    row = within(ledger, remark, sign)
    if row == ():
        return "span" if in_span(ledger, remark, sign) else "out"
    laid = {slot: moved for slot, _, moved in slot_rows(ledger)}
    both = laid[row], laid[(*row[:2], row[2] + 1)]
    return "row" if all(hold_word(ledger, remark, each) != "out" for each in both) else "out"


def held(ledger, remark):
    return tuple(sign for sign in signs(ledger) if hold_word(ledger, remark, sign) != "out")


def hold_paper(ledger, remark):
    entries = []
    for sign in signs(ledger):
        strange = sign[:2] not in elders(ledger, remark)
        slot = within(ledger, remark, sign) if strange else ()
        entries.append((sign, hold_word(ledger, remark, sign), slot))
    return order(ledger), tuple(entries)


def last_row(ledger, sign):
    touched = touches(ledger, sign)
    backs = [name for name in touched if deed_of(ledger, name)[0] == "back"]
    return tuple(name for name in touched if not backs or name > backs[-1])


def stand(ledger, remark):
    unsays = said(ledger, ["unsay"], remark)
    if unsays:
        return "unsaid", max(unsays)
    inside = held(ledger, remark)
    shown = text(ledger)
    parts = tuple(
        (begin, end)
        for begin, end in itertools.combinations(range(len(shown) + 1), 2)
        if set(shown[begin:end]) <= set(inside)
        and (begin == 0 or shown[begin - 1] not in inside)
        and (end == len(shown) or shown[end] not in inside)
    )
    if parts:
        return "there", parts
    rows = [last_row(ledger, sign) for sign in inside]
    strange = [row for row in rows if row and not set(row) & elders(ledger, remark)]
    return "lost", max(row[0] for row in strange)


def look(ledger, remark):
    word, parts = stand(ledger, remark)
    return tuple(text(ledger)[begin:end] for begin, end in parts) if word == "there" else ()


def decided(ledger, remark):
    last = max(said(ledger, ["settle", "open"], remark), default=None)
    return last and (deed_of(ledger, last)[0], last)


def looks_behind(ledger, remark, settle):
    """The LOOK when it was settled, and those behind each further CHANGE: (name, look)."""
    laid = elders(ledger, settle) | {settle}
    rows = []
    for change in ledger:
        if change[0] not in laid:
            laid = laid | {change[0]}
            part = tuple(each for each in ledger if each[0] in laid)
            rows.append((change[0], look(part, remark)))
    return look(known(ledger, settle), remark), rows


def is_up(ledger, remark):
    word, name = decided(ledger, remark) or (None, None)
    return word == "settle" and look(ledger, remark) != look(known(ledger, name), remark)


def caller(ledger, remark):
    if not is_up(ledger, remark):
        return None
    then, rows = looks_behind(ledger, remark, decided(ledger, remark)[1])
    return next(
        name for k, (name, _) in enumerate(rows) if all(later != then for _, later in rows[k:])
    )


def word_of(ledger, remark):
    if stand(ledger, remark)[0] in ("unsaid", "lost"):
        return stand(ledger, remark)[0]
    if is_up(ledger, remark):
        return "up"
    return "settled" if (decided(ledger, remark) or ("open",))[0] == "settle" else "open"


def freeing_sets(ledger, remark):
    """All sets of NAMES by which a REMARK is FREED, the smallest first, as rising tuples."""
    inside = elders(ledger, remark) | {remark}
    strange = [change[0] for change in ledger if change[0] not in inside]
    for many in range(len(strange) + 1):
        for names in itertools.combinations(strange, many):
            left = tuple(change for change in ledger if change[0] not in names)
            closed = all(not elders(ledger, change[0]) & set(names) for change in left)
            if closed and stand(left, remark)[0] == "there":
                yield names
