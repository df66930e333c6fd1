import copy
import itertools
import unittest

import samples
from slantfloor.errors import NoHeights, SlantError
from slantfloor.flips import low
from slantfloor.floors import is_floor
from slantfloor.heights import by_heights, heights
from slantfloor.threes import floor_by, threes

HEXAGON = samples.sides_of(samples.THREE_SINGLE)
UP = [(0, 1, ()), (0, 2, (1,)), (1, 2, ())]
DOWN = [(0, 1, (2,)), (0, 2, ()), (1, 2, (0,))]
# Two bands of the first kind, three of the second, two of the last.
BOX = [(1, 0, 2), (1, 1, 3), (0, 1, 2)]
BOX_SIDES = samples.sides_of(BOX)
OTHERS = [directions for directions in samples.ALL if len(directions) != 3]
THREES = (BOX, samples.THREE, samples.THREE_SINGLE, samples.THREE_MIDDLE)


def table_by_hand(directions, floor):
    kinds = samples.kinds_of(directions)
    bands = range(len(kinds))
    return [
        [
            len([band for band in samples.below_of(floor, a, c) if kinds[band] == 1])
            for c in bands if kinds[c] == 2
        ]
        for a in bands if kinds[a] == 0
    ]


def every_table(p, q, r):
    for numbers in itertools.product(range(q + 1), repeat=p * r):
        table = [list(numbers[k * r:(k + 1) * r]) for k in range(p)]
        along = all(one <= other for line in table for one, other in zip(line, line[1:]))
        across = all(one <= other for a, b in zip(table, table[1:]) for one, other in zip(a, b))
        if along and across:
            yield table


class TestHeights(unittest.TestCase):
    def test_hexagon(self):
        self.assertEqual(heights(HEXAGON, UP), [[1]])
        self.assertEqual(heights(HEXAGON, DOWN), [[0]])

    def test_lists_for_the_first_kind_numbers_for_the_last(self):
        sides = samples.sides_of([(1, 0, 1), (1, 1, 1), (0, 1, 3)])
        self.assertEqual(heights(sides, low(sides)), [[0, 0, 0]])
        sides = samples.sides_of([(1, 0, 3), (1, 1, 1), (0, 1, 1)])
        self.assertEqual(heights(sides, floor_by(sides, threes(sides))), [[1], [1], [1]])

    def test_how_many_of_the_second_kind_are_below(self):
        for directions in THREES:
            sides = samples.sides_of(directions)
            for floor in samples.every_floor(directions):
                self.assertEqual(heights(sides, floor), table_by_hand(directions, floor))

    def test_twelve_bands(self):
        sides = samples.sides_of(samples.TWELVE_THREE)
        for seed in range(6):
            floor = samples.tiles_by_hand(samples.TWELVE_THREE, samples.some_row(samples.TWELVE_THREE, seed))
            table = heights(sides, floor)
            self.assertEqual(table, table_by_hand(samples.TWELVE_THREE, floor))
            self.assertEqual(by_heights(sides, table), floor)

    def test_low_and_high(self):
        self.assertEqual(heights(BOX_SIDES, low(BOX_SIDES)), [[0, 0], [0, 0]])
        self.assertEqual(heights(BOX_SIDES, floor_by(BOX_SIDES, threes(BOX_SIDES))), [[3, 3], [3, 3]])

    def test_each_table_is_that_of_just_one_floor(self):
        for directions in THREES:
            sides = samples.sides_of(directions)
            tables = list(every_table(*[many for x, y, many in directions]))
            told = [heights(sides, floor) for floor in samples.every_floor(directions)]
            self.assertEqual(sorted(told), sorted(tables))

    def test_other_counts_of_directions(self):
        for directions in OTHERS:
            sides = samples.sides_of(directions)
            floor = samples.tiles_by_hand(directions, samples.some_row(directions, 1))
            with self.assertRaises(NoHeights) as taken:
                heights(sides, floor)
            self.assertIsInstance(taken.exception, SlantError)


class TestByHeights(unittest.TestCase):
    def refused(self, sides, table):
        before = copy.deepcopy(table)
        with self.assertRaises(NoHeights):
            by_heights(sides, table)
        self.assertEqual(table, before)

    def test_hexagon(self):
        self.assertEqual(by_heights(HEXAGON, [[1]]), UP)
        self.assertEqual(by_heights(HEXAGON, [[0]]), DOWN)

    def test_every_table(self):
        for directions in THREES:
            sides = samples.sides_of(directions)
            for table in every_table(*[many for x, y, many in directions]):
                floor = by_heights(sides, table)
                self.assertIs(is_floor(sides, floor), True)
                self.assertEqual(table_by_hand(directions, floor), table)

    def test_all_small_tables(self):
        fine = list(every_table(2, 3, 2))
        for numbers in itertools.product(range(-1, 5), repeat=4):
            table = [list(numbers[:2]), list(numbers[2:])]
            if table in fine:
                self.assertEqual(heights(BOX_SIDES, by_heights(BOX_SIDES, table)), table)
            else:
                self.refused(BOX_SIDES, table)

    def test_numbers_that_fall(self):
        self.refused(BOX_SIDES, [[1, 0], [1, 1]])
        self.refused(BOX_SIDES, [[0, 1], [2, 1]])
        self.refused(BOX_SIDES, [[1, 1], [0, 1]])
        self.refused(BOX_SIDES, [[1, 2], [1, 1]])

    def test_below_none_and_above_all(self):
        self.refused(BOX_SIDES, [[-1, 0], [0, 0]])
        self.refused(BOX_SIDES, [[0, 0], [0, 4]])
        self.refused(BOX_SIDES, [[-999999999999, 0], [0, 0]])
        self.refused(BOX_SIDES, [[0, 0], [0, 10 ** 299]])
        self.refused(HEXAGON, [[2]])
        self.refused(HEXAGON, [[-1]])

    def test_another_count_of_lists(self):
        self.refused(BOX_SIDES, [])
        self.refused(BOX_SIDES, [[0, 0]])
        self.refused(BOX_SIDES, [[0, 0], [0, 0], [0, 0]])
        self.refused(HEXAGON, [])

    def test_another_count_of_numbers(self):
        self.refused(BOX_SIDES, [[0, 0], [0]])
        self.refused(BOX_SIDES, [[0], [0, 0]])
        self.refused(BOX_SIDES, [[], []])
        self.refused(BOX_SIDES, [[0, 0], [0, 0, 0]])
        self.refused(BOX_SIDES, [[0, 0, 0], [0, 0]])
        self.refused(BOX_SIDES, [[0, 0, 0], [0, 0, 0]])
        self.refused(HEXAGON, [[]])
        # As many numbers as there ought to be, but the other way round.
        sides = samples.sides_of([(1, 0, 3), (1, 1, 1), (0, 1, 2)])
        self.refused(sides, [[0, 0, 0], [0, 0, 0]])

    def test_many_lists(self):
        self.refused(BOX_SIDES, [[0, 0]] * 1000)
        self.refused(BOX_SIDES, [[0] * 1000, [0] * 1000])

    def test_other_counts_of_directions(self):
        for directions in OTHERS:
            sides = samples.sides_of(directions)
            for table in ([], [[]], [[0]], [[0, 0]], [[0], [0]], [[0, 0], [0, 0]]):
                self.refused(sides, table)


class TestNothingKept(unittest.TestCase):
    def test_what_is_handed_in_stays(self):
        table = [[0, 1], [2, 3]]
        floor = by_heights(BOX_SIDES, table)
        self.assertEqual(table, [[0, 1], [2, 3]])
        before = list(floor)
        told = heights(BOX_SIDES, floor)
        self.assertEqual(floor, before)
        table[0].clear()
        self.assertEqual(floor, before)
        floor.clear()
        self.assertEqual(told, [[0, 1], [2, 3]])

    def test_what_is_told_may_be_changed(self):
        floor = by_heights(BOX_SIDES, [[0, 1], [2, 3]])
        told = heights(BOX_SIDES, floor)
        told[0].append(7)
        self.assertEqual(told[1], [2, 3])
        told[1].clear()
        self.assertEqual(heights(BOX_SIDES, floor), [[0, 1], [2, 3]])
        told = heights(BOX_SIDES, low(BOX_SIDES))
        told[0][0] = 9
        self.assertEqual(told, [[9, 0], [0, 0]])
        by_heights(BOX_SIDES, [[0, 1], [2, 3]]).clear()
        self.assertEqual(by_heights(BOX_SIDES, [[0, 1], [2, 3]]), floor)


if __name__ == "__main__":
    unittest.main()
