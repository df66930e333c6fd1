"""Holds of tiles [22], and which band pulls which by them [23]."""

from slantfloor.errors import NoHold
from slantfloor.wholes import is_whole

WORDS = ("brace", "more", "less")


def is_pair(sides, a, b):
    # To be whole numbers comes first, as other things can't be told lesser or greater.
    if not is_whole(a) or not is_whole(b):
        return False
    return 0 <= a < b < sides.many() and sides.kind(a) != sides.kind(b)


def is_hold(sides, thing):
    if not isinstance(thing, tuple) or len(thing) != 3:
        return False
    return is_pair(sides, thing[0], thing[1]) and thing[2] in WORDS


def pulls_of(hold):
    there = (hold[0], hold[1])
    back = (hold[1], hold[0])
    if hold[2] == "brace":
        return [there, back]
    return [there] if hold[2] == "more" else [back]


def pulls(sides, holds):
    told = {}
    for hold in holds:
        if not is_hold(sides, hold):
            raise NoHold("a hold is a pair and one of the words brace, more, less")
        for pull in pulls_of(hold):
            told[pull] = True
    return sorted(told)
