"""Threes of bands [14], and floors told by those that stand up [15]."""

from slantfloor.errors import NoThrees
from slantfloor.floors import belows


def threes(sides):
    told = []
    for a, b in sides.pairs():
        for c in range(b + 1, sides.many()):
            if sides.kind(c) != sides.kind(b):
                told.append((a, b, c))
    return told


def up(sides, floor):
    below = belows(floor)
    return [three for three in threes(sides) if three[1] in below[(three[0], three[2])]]


def counts_as_up(sides, ups, three):
    if sides.kind(three[0]) == sides.kind(three[1]):
        return False
    if sides.kind(three[1]) == sides.kind(three[2]):
        return True
    return three in ups


def fours(many):
    told = []
    for i in range(many):
        for j in range(i + 1, many):
            for k in range(j + 1, many):
                for l in range(k + 1, many):
                    told.append((i, j, k, l))
    return told


def has_three_alike(sides, four):
    return sides.kind(four[0]) == sides.kind(four[2]) or sides.kind(four[1]) == sides.kind(four[3])


def is_barred(sides, ups, four):
    within = [(four[0], four[1], four[2]), (four[0], four[1], four[3]), (four[0], four[2], four[3]), four[1:]]
    stand = [counts_as_up(sides, ups, three) for three in within]
    # The first few, the last few, none or all: so there is at most one change from one to the next.
    changes = [1 for one, other in zip(stand, stand[1:]) if one != other]
    return len(changes) > 1


def check_threes(sides, ups):
    known = threes(sides)
    for three in ups:
        if three not in known:
            raise NoThrees("there is something that is no three of these sides")
    for four in fours(sides.many()):
        if not has_three_alike(sides, four) and is_barred(sides, ups, four):
            raise NoThrees("four bands bar these threes")


def is_below(sides, ups, z, x, y):
    if z < x:
        return not counts_as_up(sides, ups, (z, x, y))
    if z > y:
        return not counts_as_up(sides, ups, (x, y, z))
    return x < z < y and counts_as_up(sides, ups, (x, z, y))


def floor_by(sides, some):
    ups = {}
    for three in some:
        ups[three] = True
    check_threes(sides, ups)
    told = []
    for x, y in sides.pairs():
        below = [z for z in range(sides.many()) if is_below(sides, ups, z, x, y)]
        told.append((x, y, tuple(below)))
    return told
