"""Unlike threes of two floors, and ways of flips from one to the other [18]."""

from slantfloor.flips import flippable, flipped
from slantfloor.threes import up


def unlike(sides, one, other):
    ups = up(sides, one)
    others = up(sides, other)
    return sorted([three for three in ups if three not in others] + [three for three in others if three not in ups])


def falling(sides, floor, spared):
    """A three that can be flipped from up to down and is not spared, or None."""
    ups = up(sides, floor)
    for three in flippable(sides, floor):
        if three in ups and three not in spared:
            return three
    return None


def way(sides, one, other):
    # Both floors are flipped down until they are the same, at the latest the low one; the flips of the other one
    # are then gone back. Threes that are up in both are spared as long as others can fall: with three directions
    # that is all the way, so just the unlike ones are flipped.
    there = []
    back = []
    while one != other:
        three = falling(sides, one, up(sides, other))
        if three is None:
            three = falling(sides, other, up(sides, one))
            if three is not None:
                back.append(three)
                other = flipped(sides, other, three)
                continue
            # The one is not low here: else each three that falls in the other would have been found.
            three = falling(sides, one, [])
        there.append(three)
        one = flipped(sides, one, three)
    back.reverse()
    return there + back
