"""Heights, with three directions [19]."""

from slantfloor.errors import NoHeights
from slantfloor.floors import belows
from slantfloor.threes import floor_by, threes

FIRST = 0
SECOND = 1
LAST = 2


def check_directions(sides):
    if sides.kind(sides.many() - 1) != LAST:
        raise NoHeights("there are heights with three directions alone")


def bands_of(sides, kind):
    return [band for band in range(sides.many()) if sides.kind(band) == kind]


def height(sides, below):
    return len([band for band in below if sides.kind(band) == SECOND])


def heights(sides, floor):
    check_directions(sides)
    below = belows(floor)
    table = []
    for a in bands_of(sides, FIRST):
        table.append([height(sides, below[(a, c)]) for c in bands_of(sides, LAST)])
    return table


def has_form(sides, table):
    if len(table) != len(bands_of(sides, FIRST)):
        return False
    return all([len(numbers) == len(bands_of(sides, LAST)) for numbers in table])


def rises(ahead, behind):
    return all([one <= other for one, other in zip(ahead, behind)])


def is_table(sides, table):
    # The form first, as lists of unlike lengths can't be held against one another.
    if not has_form(sides, table):
        return False
    most = len(bands_of(sides, SECOND))
    for numbers in table:
        if numbers[0] < 0 or numbers[-1] > most or not rises(numbers, numbers[1:]):
            return False
    return all([rises(ahead, behind) for ahead, behind in zip(table, table[1:])])


def by_heights(sides, table):
    check_directions(sides)
    if not is_table(sides, table):
        raise NoHeights("the table is that of no floor")
    second = bands_of(sides, SECOND)[0]
    last = bands_of(sides, LAST)[0]
    return floor_by(sides, [(a, b, c) for a, b, c in threes(sides) if b - second < table[a][c - last]])
