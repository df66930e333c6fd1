"""All floors of some sides [21]."""

from slantfloor.errors import TooMany
from slantfloor.flips import flippable, flipped, low


def all_floors(sides, most):
    found = []
    seen = {}
    # Any floor is led to from the low one by flips.
    waiting = [low(sides)]
    while waiting:
        floor = waiting.pop()
        if tuple(floor) in seen:
            continue
        if len(found) >= most:
            raise TooMany("there are more floors than the told most")
        seen[tuple(floor)] = True
        found.append(floor)
        for three in flippable(sides, floor):
            waiting.append(flipped(sides, floor, three))
    return sorted(found)
