"""Sides to ask about, and slow ways to reckon what the program tells, written apart from it."""

import random

from slantfloor.sides import Sides

ONE_TILE = [(1, 0, 1), (0, 1, 1)]
TWO = [(1, 0, 3), (-1, 2, 2)]
THREE = [(3, 0, 2), (1, 1, 1), (-2, 5, 2)]
THREE_SINGLE = [(1, 0, 1), (1, 1, 1), (0, 1, 1)]
THREE_MIDDLE = [(2, 1, 1), (1, 3, 3), (-1, 1, 2)]
FOUR = [(1, 0, 1), (1, 1, 2), (0, 1, 1), (-1, 1, 1)]
FOUR_ALIKE = [(1, 0, 1), (2, 3, 1), (0, 1, 1), (-1, 1, 2)]
FIVE = [(1, 0, 1), (2, 1, 1), (1, 2, 1), (-1, 2, 1), (-2, 1, 1)]
SIX = [(1, 0, 1), (2, 1, 1), (1, 3, 1), (0, 1, 1), (-1, 2, 1), (-5, 1, 1)]
# Twelve bands, the most there may be.
TWELVE_TWO = [(1, 0, 6), (0, 1, 6)]
TWELVE_THREE = [(1, 0, 4), (1, 1, 4), (0, 1, 4)]
TWELVE_FOUR = [(7, 0, 2), (5, 3, 5), (-1, 1, 3), (-9, 2, 2)]
TWELVE_SIX = [(1, 0, 2), (2, 1, 2), (1, 3, 2), (0, 1, 2), (-1, 2, 2), (-5, 1, 2)]

# So few floors that all rows of them can be gone through.
SMALL = (ONE_TILE, TWO, THREE, THREE_SINGLE, THREE_MIDDLE, FOUR, FOUR_ALIKE, FIVE)
LARGE = (TWELVE_TWO, TWELVE_THREE, TWELVE_FOUR, TWELVE_SIX)
ALL = SMALL + (SIX,) + LARGE


def kinds_of(directions):
    return [kind for kind, (x, y, many) in enumerate(directions) for turn in range(many)]


def vectors_of(directions):
    return [(x, y) for x, y, many in directions for turn in range(many)]


def pairs_of(directions):
    kinds = kinds_of(directions)
    return [(a, b) for b in range(len(kinds)) for a in range(b) if kinds[a] != kinds[b]]


def places(directions, path):
    kinds = kinds_of(directions)
    return [p for p in range(len(path) - 1) if kinds[path[p]] < kinds[path[p + 1]]]


def swapped(path, p):
    path = list(path)
    path[p], path[p + 1] = path[p + 1], path[p]
    return path


def every_row(directions):
    """All whole rows."""
    def behind(path):
        found = places(directions, path)
        if not found:
            return [[]]
        return [[p] + rest for p in found for rest in behind(swapped(path, p))]
    return behind(list(range(len(kinds_of(directions)))))


def some_row(directions, seed):
    """One whole row, by a fixed choice for each seed."""
    choice = random.Random(seed)
    path = list(range(len(kinds_of(directions))))
    row = []
    while places(directions, path):
        row.append(choice.choice(places(directions, path)))
        path = swapped(path, row[-1])
    return row


def shuffled(directions, row, seed, times=3000):
    """A row of the same floor, by many exchanges of far neighbours."""
    choice = random.Random(seed)
    row = list(row)
    for turn in range(times):
        k = choice.randrange(len(row)) - 1
        if k >= 0 and abs(row[k] - row[k + 1]) >= 2:
            row[k], row[k + 1] = row[k + 1], row[k]
    return row


def tiles_by_hand(directions, row):
    path = list(range(len(kinds_of(directions))))
    tiles = []
    for p in row:
        tiles.append((path[p], path[p + 1], tuple(sorted(path[:p]))))
        path = swapped(path, p)
    return sorted(tiles)


def every_floor(directions):
    """All floors, sorted: by all steps from each path with the tiles that led to it, none of them twice."""
    first = list(range(len(kinds_of(directions))))
    front = {(tuple(first), frozenset())}
    done = set()
    while front:
        ahead = set()
        for path, tiles in front:
            found = places(directions, path)
            if not found:
                done.add(tiles)
            for p in found:
                tile = (path[p], path[p + 1], tuple(sorted(path[:p])))
                ahead.add((tuple(swapped(path, p)), tiles | {tile}))
        front = ahead
    return sorted(sorted(tiles) for tiles in done)


def below_of(floor, a, b):
    return [tile[2] for tile in floor if tile[:2] == (a, b)][0]


def ups_by_hand(directions, floor):
    kinds = kinds_of(directions)
    bands = range(len(kinds))
    return [
        (a, b, c) for a in bands for b in bands for c in bands
        if kinds[a] < kinds[b] < kinds[c] and b in below_of(floor, a, c)
    ]


def sides_of(directions):
    return Sides(list(directions))
