"""Flips of threes [16] and the low floor [17]."""

from slantfloor.errors import NoFlip
from slantfloor.floors import belows, with_band
from slantfloor.threes import floor_by, threes


def standing_up(a, b, c, some):
    return [(a, b, some), (a, c, with_band(some, b)), (b, c, some)]


def standing_down(a, b, c, some):
    return [(a, b, with_band(some, c)), (a, c, some), (b, c, with_band(some, a))]


def tiles_by_flip(below, three):
    """The three tiles that come of the flip, or None where the three can't be flipped."""
    a = three[0]
    b = three[1]
    c = three[2]
    tiles = [(a, b, below[(a, b)]), (a, c, below[(a, c)]), (b, c, below[(b, c)])]
    if tiles == standing_up(a, b, c, below[(a, b)]):
        return standing_down(a, b, c, below[(a, b)])
    if tiles == standing_down(a, b, c, below[(a, c)]):
        return standing_up(a, b, c, below[(a, c)])
    return None


def flippable(sides, floor):
    below = belows(floor)
    return [three for three in threes(sides) if tiles_by_flip(below, three) is not None]


def flipped(sides, floor, three):
    # Asked first, as what is no three has tiles that are not there.
    if three not in threes(sides):
        raise NoFlip("it is no three")
    tiles = tiles_by_flip(belows(floor), three)
    if tiles is None:
        raise NoFlip("the three can't be flipped in this floor")
    others = [tile for tile in floor if tile[0] not in three or tile[1] not in three]
    return sorted(others + tiles)


def low(sides):
    return floor_by(sides, [])
