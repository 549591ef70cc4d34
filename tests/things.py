"""Odd things to hand in, and how a refusal is read."""

from marginwords.errors import MarginError, NoName, NoPaper

ODD = (
    None, True, False, 0, 1, -1, 10**199, -(10**199), "", "a", "shape", (), [], (None,), [None], ((),), [[]], ((), ()),
    [(), ()], ((), []), ([], ()), ((), (), ()), (1, "ann"), [1, "ann"], (True, "ann"), (1, "ann", 0), ("put", 0, "a"),
    (((((((((),),),),),),),),),
)


def paper_refusal(ask, *things):
    """The (word, at) of the NoPaper with which it is refused, None where it is told."""
    try:
        ask(*things)
    except NoPaper as wrong:
        return wrong.word, wrong.at
    return None


def name_refusal(ask, *things):
    """The (name,) of the NoName with which it is refused, None where it is told."""
    try:
        ask(*things)
    except NoName as wrong:
        return (wrong.name,)
    return None


def refused(ask, *things):
    """The name of the refusal and its fields, in the order in which they were handed to it; None where it is told."""
    try:
        ask(*things)
    except MarginError as wrong:
        return (type(wrong).__name__, *vars(wrong).values())
    return None
