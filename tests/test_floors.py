import copy
import unittest

import samples
from slantfloor.errors import NoFloor, NoRow, SlantError
from slantfloor.floors import corner, first_row, is_floor, laid
from slantfloor.rows import is_whole_row

SIDES = samples.sides_of(samples.THREE)
ROW = [1, 0, 2, 1, 0, 3, 2, 1]
FLOOR = [
    (0, 2, ()), (0, 3, (2,)), (0, 4, (2, 3)), (1, 2, (0,)), (1, 3, (0, 2)), (1, 4, (0, 2, 3)),
    (2, 3, ()), (2, 4, (3,)),
]
HEXAGON = samples.sides_of(samples.THREE_SINGLE)
UP = [(0, 1, ()), (0, 2, (1,)), (1, 2, ())]
DOWN = [(0, 1, (2,)), (0, 2, ()), (1, 2, (0,))]


def with_band(below, band):
    return tuple(sorted(below + (band,)))


def right_edges(tile):
    a, b, below = tile
    return [(a, below), (b, with_band(below, a))]


def left_edges(tile):
    a, b, below = tile
    return [(b, below), (a, with_band(below, b))]


def rim(path):
    return [(band, tuple(sorted(path[:place]))) for place, band in enumerate(path)]


def area_of_polygon(sides):
    """By the corners of its rim, as the half sum of what each two that follow one another span."""
    around = [corner(sides, tuple(sorted(sides.first()[:k]))) for k in range(sides.many())]
    around += [corner(sides, tuple(sorted(sides.last()[:k]))) for k in range(sides.many(), 0, -1)]
    doubled = sum(
        x1 * y2 - x2 * y1 for (x1, y1), (x2, y2) in zip(around, around[1:] + around[:1])
    )
    return doubled // 2


class TestLaid(unittest.TestCase):
    def test_one_tile(self):
        self.assertEqual(laid(samples.sides_of(samples.ONE_TILE), [0]), [(0, 1, ())])

    def test_both_floors_of_a_hexagon(self):
        self.assertEqual(laid(HEXAGON, [0, 1, 0]), UP)
        self.assertEqual(laid(HEXAGON, [1, 0, 1]), DOWN)

    def test_some_tiles(self):
        self.assertEqual(laid(SIDES, ROW), FLOOR)

    def test_bands_below_are_those_ahead_of_both_and_rising(self):
        for directions in samples.ALL:
            sides = samples.sides_of(directions)
            for seed in range(8):
                row = samples.some_row(directions, seed)
                self.assertEqual(laid(sides, row), samples.tiles_by_hand(directions, row))

    def test_one_tile_for_each_pair_sorted(self):
        for directions in samples.ALL:
            sides = samples.sides_of(directions)
            floor = laid(sides, samples.some_row(directions, 11))
            self.assertEqual([(a, b) for a, b, below in floor], sides.pairs())
            self.assertEqual(floor, sorted(floor))

    def test_kinds(self):
        for tile in laid(SIDES, ROW):
            self.assertIsInstance(tile, tuple)
            self.assertIsInstance(tile[2], tuple)

    def test_refused_rows(self):
        for row, step in (([], 0), (ROW[:-1], 7), (ROW + [0], 8), ([1, 1], 1), ([-1], 0), ([999999999999], 0)):
            with self.assertRaises(NoRow) as taken:
                laid(SIDES, row)
            self.assertEqual(taken.exception.step, step)


class TestCovered(unittest.TestCase):
    def check(self, directions, floor):
        sides = samples.sides_of(directions)
        right = [edge for tile in floor for edge in right_edges(tile)]
        left = [edge for tile in floor for edge in left_edges(tile)]
        # Just once: sorted lists, so that an edge told twice would show.
        self.assertEqual(sorted(right + rim(sides.last())), sorted(left + rim(sides.first())))
        self.assertEqual(len(set(right)), len(right))
        self.assertEqual(len(set(left)), len(left))
        area = 0
        for a, b, below in floor:
            (x1, y1), (x2, y2) = sides.vector(a), sides.vector(b)
            area += x1 * y2 - x2 * y1
        self.assertEqual(area, area_of_polygon(sides))

    def test_each_floor_covers_the_polygon_once(self):
        for directions in samples.SMALL:
            for floor in samples.every_floor(directions):
                self.check(directions, laid(
                    samples.sides_of(directions), first_row(samples.sides_of(directions), floor)
                ))

    def test_large_ones(self):
        for directions in samples.LARGE:
            for seed in range(4):
                sides = samples.sides_of(directions)
                self.check(directions, laid(sides, samples.some_row(directions, seed)))


class TestCorner(unittest.TestCase):
    def test_none_below(self):
        self.assertEqual(corner(SIDES, ()), (0, 0))

    def test_some_below(self):
        self.assertEqual(corner(SIDES, (0,)), (3, 0))
        self.assertEqual(corner(SIDES, (0, 1)), (6, 0))
        self.assertEqual(corner(SIDES, (0, 2, 3)), (2, 6))
        self.assertEqual(corner(SIDES, (3, 4)), (-4, 10))
        self.assertEqual(corner(SIDES, (0, 1, 2, 3, 4)), (3, 11))

    def test_any_bands_of_large_sides(self):
        sides = samples.sides_of(samples.TWELVE_SIX)
        vectors = samples.vectors_of(samples.TWELVE_SIX)
        for number in range(0, 4096, 7):
            below = tuple(band for band in range(12) if number >> band & 1)
            wanted = (sum(vectors[band][0] for band in below), sum(vectors[band][1] for band in below))
            self.assertEqual(corner(sides, below), wanted)

    def test_twelve_figures(self):
        sides = samples.sides_of([(999999999999, 1, 6), (-999999999999, 2, 6)])
        self.assertEqual(corner(sides, (0, 1, 2)), (2999999999997, 3))
        self.assertEqual(corner(sides, (6, 7)), (-1999999999998, 4))
        self.assertIsInstance(corner(sides, (6, 7)), tuple)


class FloorCase(unittest.TestCase):
    def refused(self, sides, tiles):
        before = copy.deepcopy(tiles)
        with self.assertRaises(NoFloor) as taken:
            first_row(sides, tiles)
        self.assertIsInstance(taken.exception, SlantError)
        self.assertIs(is_floor(sides, tiles), False)
        self.assertEqual(tiles, before)


class TestFirstRow(FloorCase):
    def test_some_first_rows(self):
        self.assertEqual(first_row(HEXAGON, UP), [0, 1, 0])
        self.assertEqual(first_row(HEXAGON, DOWN), [1, 0, 1])
        self.assertEqual(first_row(samples.sides_of(samples.ONE_TILE), [(0, 1, ())]), [0])
        self.assertEqual(first_row(SIDES, FLOOR), ROW)

    def test_the_least_of_all_rows(self):
        for directions in samples.SMALL:
            sides = samples.sides_of(directions)
            least = {}
            for row in samples.every_row(directions):
                floor = tuple(samples.tiles_by_hand(directions, row))
                least[floor] = min(least.get(floor, row), row)
            for floor, row in least.items():
                self.assertEqual(first_row(sides, list(floor)), row)
                self.assertIs(is_floor(sides, list(floor)), True)

    def test_read_back_of_large_floors(self):
        for directions in samples.ALL:
            sides = samples.sides_of(directions)
            for seed in range(4):
                row = samples.some_row(directions, seed)
                floor = laid(sides, row)
                told = first_row(sides, floor)
                self.assertIs(is_whole_row(sides, told), True)
                self.assertEqual(laid(sides, told), floor)
                self.assertLessEqual(told, row)
                self.assertEqual(first_row(sides, laid(sides, samples.shuffled(directions, row, seed))), told)
                self.assertIs(is_floor(sides, floor), True)


class TestNoFloor(FloorCase):
    def test_without_tiles(self):
        for directions in samples.ALL:
            self.refused(samples.sides_of(directions), [])

    def test_one_tile_fewer(self):
        for place in range(len(FLOOR)):
            self.refused(SIDES, FLOOR[:place] + FLOOR[place + 1:])

    def test_one_tile_twice(self):
        for place in range(len(FLOOR)):
            self.refused(SIDES, FLOOR[:place] + [FLOOR[place]] + FLOOR[place:])
            self.refused(SIDES, sorted(FLOOR[:place] + FLOOR[place + 1:] + [FLOOR[place - 1]]))
        self.refused(SIDES, FLOOR + FLOOR)

    def test_two_exchanged(self):
        for place in range(len(FLOOR) - 1):
            self.refused(SIDES, samples.swapped(FLOOR, place))
        self.refused(SIDES, FLOOR[::-1])

    def test_other_bands_below(self):
        for place, (a, b, below) in enumerate(FLOOR):
            for number in range(32):
                other = tuple(band for band in range(5) if number >> band & 1)
                if other != below:
                    self.refused(SIDES, FLOOR[:place] + [(a, b, other)] + FLOOR[place + 1:])

    def test_a_tile_more(self):
        for tile in ((0, 2, (1,)), (2, 4, ()), (0, 1, ()), (2, 0, ()), (4, 4, (0,)), (3, 4, (0, 1, 2))):
            self.refused(SIDES, sorted(FLOOR + [tile]))

    def test_a_tile_of_another_floor(self):
        for place in range(3):
            self.refused(HEXAGON, UP[:place] + [DOWN[place]] + UP[place + 1:])
            self.refused(HEXAGON, DOWN[:place] + [UP[place]] + DOWN[place + 1:])
        self.refused(HEXAGON, sorted(UP + DOWN))

    def test_every_mix_of_two_floors(self):
        floors = samples.every_floor(samples.FOUR)
        sides = samples.sides_of(samples.FOUR)
        for one in floors[::3]:
            for other in floors[::4]:
                for place in range(len(one)):
                    mixed = one[:place] + other[place:]
                    self.assertIs(is_floor(sides, mixed), mixed in floors)

    def test_floors_of_other_sides(self):
        self.refused(HEXAGON, [(0, 1, ())])
        self.refused(samples.sides_of(samples.ONE_TILE), UP)
        self.refused(SIDES, UP)

    def test_three_thousand_tiles(self):
        self.refused(SIDES, FLOOR * 375)
        self.refused(SIDES, [(0, 2, ())] * 3000)


class TestNothingKept(FloorCase):
    def test_what_is_handed_in_stays(self):
        row = list(ROW)
        tiles = list(FLOOR)
        laid(SIDES, row)
        first_row(SIDES, tiles)
        is_floor(SIDES, tiles)
        self.assertEqual(row, ROW)
        self.assertEqual(tiles, FLOOR)

    def test_what_is_told_may_be_changed(self):
        row = list(ROW)
        floor = laid(SIDES, row)
        row.clear()
        self.assertEqual(floor, FLOOR)
        told = first_row(SIDES, floor)
        floor.clear()
        self.assertEqual(told, ROW)
        told.append(7)
        self.assertEqual(laid(SIDES, ROW), FLOOR)
        self.assertEqual(first_row(SIDES, list(FLOOR)), ROW)


if __name__ == "__main__":
    unittest.main()
