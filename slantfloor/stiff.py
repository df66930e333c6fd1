"""Stiff holds and free sets [23, 24], groups, needless holds and the fewest braces [25]."""

from slantfloor.holds import pulls


def reached(arrows, start):
    """Each band that arrows lead to from start, with the band ahead of it on the way, None for start itself."""
    told = {start: None}
    waiting = [start]
    while waiting:
        band = waiting.pop()
        for x, y in arrows:
            if x == band and y not in told:
                told[y] = band
                waiting.append(y)
    return told


def turned_round(arrows):
    return [(y, x) for x, y in arrows]


def groups(sides, holds):
    arrows = pulls(sides, holds)
    told = []
    grouped = {}
    for band in range(sides.many()):
        if band in grouped:
            continue
        forth = reached(arrows, band)
        back = reached(turned_round(arrows), band)
        group = [other for other in range(sides.many()) if other in forth and other in back]
        for other in group:
            grouped[other] = True
        told.append(group)
    return told


def there_and_back(sides, holds):
    arrows = pulls(sides, holds)
    there = reached(arrows, 0)
    back = reached(turned_round(arrows), 0)
    bands = sides.first()
    if len(there) < len(bands) or len(back) < len(bands):
        return None
    return ([there[band] for band in bands], [back[band] for band in bands])


def free(sides, holds):
    arrows = pulls(sides, holds)
    # Any free set holds all that is reached from a band of it. So where there is one, there is one of this form.
    for band in range(sides.many()):
        some = sorted(reached(arrows, band))
        if len(some) < sides.many():
            return some
    return None


def needless(sides, holds, number):
    others = pulls(sides, holds[:number] + holds[number + 1:])
    own = pulls(sides, [holds[number]])
    return all([y in reached(others, x) for x, y in own])


def fewest(sides):
    # Band 0 can't be braced with its like: those are braced with the last band, which is of another kind.
    last = sides.many() - 1
    told = []
    for band in range(1, sides.many()):
        if sides.kind(band) == sides.kind(0):
            told.append((band, last, "brace"))
        else:
            told.append((0, band, "brace"))
    return told
