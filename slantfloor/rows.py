"""Paths and their exchanges [7], rows and whole rows [8]."""

from slantfloor.errors import NoRow


def can(sides, path, p):
    # Asked ahead of the look at the path, as to Python a place below 0 counts from the end.
    if p < 0 or p > len(path) - 2:
        return False
    return sides.kind(path[p]) < sides.kind(path[p + 1])


def exchanged(sides, path, p):
    return path[:p] + [path[p + 1], path[p]] + path[p + 2:]


def paths(sides, row):
    path = sides.first()
    told = [path]
    for step, p in enumerate(row):
        if not can(sides, path, p):
            raise NoRow(step)
        path = exchanged(sides, path, p)
        told.append(path)
    if path != sides.last():
        raise NoRow(len(row))
    return told


def is_whole_row(sides, row):
    try:
        paths(sides, row)
    except NoRow:
        return False
    return True
