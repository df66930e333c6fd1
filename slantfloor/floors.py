"""Tiles and corners [9], the floor of a row [10] and the first row of a floor [12]."""

from slantfloor.errors import NoFloor
from slantfloor.rows import can, exchanged, paths


def corner(sides, below):
    x = sum([sides.vector(band)[0] for band in below])
    y = sum([sides.vector(band)[1] for band in below])
    return (x, y)


def with_band(below, band):
    return tuple(sorted(below + (band,)))


def belows(floor):
    told = {}
    for a, b, below in floor:
        told[(a, b)] = below
    return told


def tile_at(path, p):
    return (path[p], path[p + 1], tuple(sorted(path[:p])))


def tiles_in_turn(sides, row):
    # The path behind the last exchange has no exchange of its own, so zip leaves it out.
    return [tile_at(path, p) for p, path in zip(row, paths(sides, row))]


def laid(sides, row):
    return sorted(tiles_in_turn(sides, row))


def least_place(sides, path, wanted):
    for p in range(len(path) - 1):
        if can(sides, path, p) and tile_at(path, p) in wanted:
            return p
    return None


def first_row(sides, tiles):
    wanted = {}
    for tile in tiles:
        wanted[tile] = True
    path = sides.first()
    row = []
    found = []
    p = least_place(sides, path, wanted)
    while p is not None:
        row.append(p)
        found.append(tile_at(path, p))
        path = exchanged(sides, path, p)
        p = least_place(sides, path, wanted)
    # The walk meets each tile of a floor once; a list with a tile more, or in another order, shows only here.
    if path != sides.last() or sorted(found) != tiles:
        raise NoFloor("the tiles are not the floor of a whole row")
    return row


def is_floor(sides, tiles):
    try:
        first_row(sides, tiles)
    except NoFloor:
        return False
    return True
