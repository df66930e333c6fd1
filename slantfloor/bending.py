"""Turns [26], and floors bent by them [27]."""

from slantfloor.errors import NoTurn
from slantfloor.floors import corner, with_band
from slantfloor.wholes import is_whole


def greatest_divisor(one, other):
    one = abs(one)
    other = abs(other)
    while other != 0:
        rest = one % other
        one = other
        other = rest
    return one


def divisor_of_three(one, other, third):
    return greatest_divisor(greatest_divisor(one, other), third)


def is_turn(thing):
    if not isinstance(thing, tuple) or len(thing) != 3:
        return False
    # The parts must be known to be whole numbers ahead of any reckoning with them.
    if not all([is_whole(part) for part in thing]):
        return False
    p = thing[0]
    q = thing[1]
    r = thing[2]
    return r >= 1 and p * p + q * q == r * r and divisor_of_three(p, q, r) == 1


def turned(vector, turn):
    """The vector behind the turn, r times as long."""
    x = vector[0]
    y = vector[1]
    return (turn[0] * x - turn[1] * y, turn[1] * x + turn[0] * y)


def keeps_tiles(sides, some, turn):
    for a, b in sides.pairs():
        # Both vectors may be longer than they are, as the sign alone is asked.
        one = turned(sides.vector(a), turn) if a in some else sides.vector(a)
        other = turned(sides.vector(b), turn) if b in some else sides.vector(b)
        if one[0] * other[1] - other[0] * one[1] <= 0:
            return False
    return True


def turn_for(sides, some):
    # The greater m is, the less is turned, and as little as one likes; as m is even, no number above 1 divides all
    # three. Less than a right angle is turned, so a tile that keeps its side in the end keeps it all the way.
    m = 2
    turn = (3, 4, 5)
    while not keeps_tiles(sides, some, turn):
        m = 2 * m
        turn = (m * m - 1, 2 * m, m * m + 1)
    return turn


def corners(floor):
    told = {}
    for a, b, below in floor:
        told[below] = True
        told[with_band(below, a)] = True
        told[with_band(below, b)] = True
        told[with_band(with_band(below, a), b)] = True
    return sorted(told)


def bent_corner(sides, below, some, turn):
    r = turn[2]
    still = corner(sides, [band for band in below if band not in some])
    moved = turned(corner(sides, [band for band in below if band in some]), turn)
    x = still[0] * r + moved[0]
    y = still[1] * r + moved[1]
    divisor = divisor_of_three(x, y, r)
    return (below, x // divisor, y // divisor, r // divisor)


def bent(sides, floor, some, turn):
    if not is_turn(turn):
        raise NoTurn("a turn is (p, q, r), r from 1 on, p p + q q = r r, with no common part")
    return [bent_corner(sides, below, some, turn) for below in corners(floor)]
