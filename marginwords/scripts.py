"""STEPS that make of one SIGN ROW another one."""

from marginwords.errors import NoPaper
from marginwords.keeping import kept
from marginwords.kinds import is_place, is_sign, is_tuple_of
from marginwords.rows import common_places


def is_out(row, thing):
    """Whether it is a STEP by which a SIGN of the row goes."""
    return is_tuple_of(2, thing) and thing[0] == "out" and is_place(len(row), thing[1])


def is_to(row, thing):
    """Whether it is a STEP by which a SIGN of the row comes to another place."""
    if not is_tuple_of(3, thing) or thing[0] != "to":
        return False
    return is_place(len(row), thing[1]) and is_place(len(row), thing[2]) and thing[1] != thing[2]


def is_in(row, thing):
    """Whether it is a STEP by which a SIGN comes into the row."""
    if not is_tuple_of(3, thing) or thing[0] != "in":
        return False
    return is_place(len(row) + 1, thing[1]) and is_sign(thing[2]) and thing[2] not in row


def stepped(row, thing):
    """The row that a STEP makes of a row, None where the thing is no STEP that can be done to it."""
    if is_out(row, thing):
        return row[:thing[1]] + row[thing[1] + 1:]
    if is_in(row, thing):
        return row[:thing[1]] + (thing[2],) + row[thing[1]:]
    if is_to(row, thing):
        left = row[:thing[1]] + row[thing[1] + 1:]
        return left[:thing[2]] + (row[thing[1]],) + left[thing[2]:]
    return None


def applied(row, thing):
    """The row that comes where a list of STEPS is done to a row, one by one."""
    if not isinstance(thing, list):
        raise NoPaper("shape", -1)
    here = row
    for k, step in enumerate(thing):
        there = stepped(here, step)
        if there is None:
            raise NoPaper("step", k)
        here = there
    return here


def moving_steps(row, goal):
    """As few STEPS as can be that make of a row another one of the same SIGNS."""
    staying = kept(row, goal)
    steps = []
    here = row
    for k, sign in enumerate(goal):
        if sign in staying:
            continue
        left = tuple(each for each in here if each != sign)
        # The one ahead of it stays or has come to its place already; it is never just behind that by itself:
        # else it could have stayed, and the row that stays is as long as can be.
        place = 0 if k == 0 else left.index(goal[k - 1]) + 1
        step = ("to", here.index(sign), place)
        here = stepped(here, step)
        steps.append(step)
    return steps


def shortest_steps(one, other):
    """A list of STEPS that make of the one row the other, as few as can be."""
    places = common_places(one, other)
    row = tuple(sign for sign in one if sign in places)
    goal = tuple(sign for sign in other if sign in places)
    # From the end on, so that none of these turns the place of a later one.
    outs = [("out", place) for place in range(len(one) - 1, -1, -1) if one[place] not in places]
    ins = [("in", place, sign) for place, sign in enumerate(other) if sign not in places]
    return outs + moving_steps(row, goal) + ins


def fewest_steps(one, other):
    """How few STEPS make of the one row the other."""
    both = len(common_places(one, other))
    return len(one) - both + len(other) - both + both - len(kept(one, other))
