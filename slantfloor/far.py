"""Roads from one row to another one of the same floor [13]."""

from slantfloor.floors import laid, tiles_in_turn


def road(sides, one, other):
    if laid(sides, one) != laid(sides, other):
        return None
    now = tiles_in_turn(sides, one)
    steps = []
    # Each tile that is led ahead passes only tiles that the other row lays behind it. So each two tiles change
    # order at most once: with 60 tiles, the most there are, that is 1770 steps.
    for goal, tile in enumerate(tiles_in_turn(sides, other)):
        place = now.index(tile)
        now.insert(goal, now.pop(place))
        for k in range(place - 1, goal - 1, -1):
            steps.append(k)
    return steps
