"""The sides of the polygon: its directions [4], its bands [5] and its two rims [6]."""

from slantfloor.errors import NoSides
from slantfloor.wholes import is_whole

FEWEST_DIRECTIONS = 2
MOST_DIRECTIONS = 6
MOST_BANDS = 12
LARGEST_PART = 999999999999


def has_three_wholes(direction):
    if not isinstance(direction, tuple) or len(direction) != 3:
        return False
    return all([is_whole(part) for part in direction])


def has_few_figures(direction):
    return abs(direction[0]) <= LARGEST_PART and abs(direction[1]) <= LARGEST_PART


def points_up(direction):
    return direction[1] > 0 or (direction[1] == 0 and direction[0] > 0)


def lies_left(direction, ahead):
    return ahead[0] * direction[1] - direction[0] * ahead[1] > 0


def check_direction(direction):
    # The parts must be known to be whole numbers ahead of any reckoning with them.
    if not has_three_wholes(direction):
        raise NoSides("a direction is a tuple of three whole numbers")
    if not has_few_figures(direction):
        raise NoSides("x and y of a direction have at most twelve figures")
    if not points_up(direction):
        raise NoSides("a direction points up, or straight to the right")
    if direction[2] < 1:
        raise NoSides("a direction has one band at least")


def check_directions(directions):
    if not isinstance(directions, list):
        raise NoSides("directions are a list")
    if not FEWEST_DIRECTIONS <= len(directions) <= MOST_DIRECTIONS:
        raise NoSides("there are two to six directions")
    for direction in directions:
        check_direction(direction)
    if sum([direction[2] for direction in directions]) > MOST_BANDS:
        raise NoSides("there are at most twelve bands")
    # As all point up, to be left of the one ahead is to be left of all ahead.
    for ahead, direction in zip(directions, directions[1:]):
        if not lies_left(direction, ahead):
            raise NoSides("each direction lies to the left of the one ahead")


class Sides:
    def __init__(self, directions):
        check_directions(directions)
        kinds = []
        for number, direction in enumerate(directions):
            kinds.extend([number] * direction[2])
        # Tuples, so that nothing told of them can be changed from outside.
        self.kinds = tuple(kinds)
        self.vectors = tuple([(direction[0], direction[1]) for direction in directions])

    def many(self):
        return len(self.kinds)

    def kind(self, band):
        return self.kinds[band]

    def vector(self, band):
        return self.vectors[self.kinds[band]]

    def pairs(self):
        found = []
        for a in range(self.many()):
            for b in range(a + 1, self.many()):
                if self.kind(a) != self.kind(b):
                    found.append((a, b))
        return found

    def first(self):
        return list(range(self.many()))

    def last(self):
        # Sorting keeps the order of bands of one kind, so these stay rising.
        return sorted(range(self.many()), key=lambda band: -self.kind(band))
