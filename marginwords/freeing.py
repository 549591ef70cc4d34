"""What has to be left out that a lost REMARK stands again."""

from marginwords.holding import held
from marginwords.knowing import knowledge
from marginwords.losing import rows_of_held


def going_with(elders, row):
    """(name, take), names rising, for each CHANGE that goes with the takes of a LAST ROW: it is, or knows, take."""
    pairs = []
    for name in elders:
        takes = [take for take in row if take == name or take in elders[name]]
        if takes != []:
            pairs.append((name, takes[0]))
    return tuple(pairs)


def free_rows(ledger, remark):
    """For each HELD SIGN, as these rise, ("known", take) or ("go", pairs), with all pairs that there are."""
    rows = []
    last = rows_of_held(ledger, held(ledger, remark))
    elders = knowledge(ledger)
    for row in last:
        takes = [take for take in row if take in elders[remark]]
        if takes != []:
            rows.append(("known", takes[0]))
        else:
            rows.append(("go", going_with(elders, row)))
    return tuple(rows)


def fewest_of(rows):
    """The NAMES of the shortest row of those that free_rows tells."""
    # One of them "goes": the SIGNS that the REMARK was hung on were SHOWN there.
    shortest = min([told for word, told in rows if word == "go"], key=len)
    return tuple(name for name, take in shortest)


def freed(ledger, remark):
    """The NAMES of the CHANGES that have to be left out, as few as can be; () where the REMARK is there."""
    return fewest_of(free_rows(ledger, remark))
