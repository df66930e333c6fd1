import copy
import unittest

import samples
from slantfloor.errors import NoRow, SlantError
from slantfloor.rows import can, exchanged, is_whole_row, paths

# Bands 0 1, 2, 3 4 of three kinds.
SIDES = samples.sides_of(samples.THREE)
# Each band of a later kind is led down in its turn.
ROW = [1, 0, 2, 1, 0, 3, 2, 1]
PATHS = [
    [0, 1, 2, 3, 4], [0, 2, 1, 3, 4], [2, 0, 1, 3, 4], [2, 0, 3, 1, 4], [2, 3, 0, 1, 4], [3, 2, 0, 1, 4],
    [3, 2, 0, 4, 1], [3, 2, 4, 0, 1], [3, 4, 2, 0, 1],
]


class TestCan(unittest.TestCase):
    def test_lesser_kind_ahead(self):
        path = [0, 2, 1, 3, 4]
        self.assertEqual([can(SIDES, path, p) for p in range(4)], [True, False, True, False])

    def test_alike_never(self):
        self.assertIs(can(SIDES, [0, 1, 2, 3, 4], 0), False)
        self.assertIs(can(SIDES, [0, 1, 2, 3, 4], 3), False)
        self.assertIs(can(SIDES, [1, 0, 2, 3, 4], 0), False)

    def test_back_never(self):
        self.assertIs(can(SIDES, [2, 0, 1, 3, 4], 0), False)
        for p in range(5):
            self.assertIs(can(SIDES, SIDES.last(), p), False)

    def test_by_kind_not_by_next_kind(self):
        self.assertIs(can(SIDES, [0, 3, 1, 2, 4], 0), True)

    def test_first_and_last_place(self):
        sides = samples.sides_of(samples.ONE_TILE)
        self.assertIs(can(sides, [0, 1], 0), True)
        self.assertIs(can(sides, [0, 1], 1), False)
        self.assertIs(can(SIDES, [2, 3, 4, 0, 1], 3), False)
        self.assertIs(can(SIDES, [0, 3, 4, 1, 2], 3), True)

    def test_below_zero(self):
        # From the end these would be bands of rising kinds.
        self.assertIs(can(SIDES, [0, 3, 4, 1, 2], -2), False)
        self.assertIs(can(SIDES, [3, 4, 1, 2, 0], -3), False)
        # And here the last one and the first.
        self.assertIs(can(SIDES, [3, 4, 1, 2, 0], -1), False)
        for p in (-1, -2, -5, -6, -999999999999):
            self.assertIs(can(SIDES, SIDES.first(), p), False)

    def test_beyond_the_last_place(self):
        for p in (4, 5, 6, 999999999999):
            self.assertIs(can(SIDES, SIDES.first(), p), False)
        self.assertIs(can(SIDES, [0, 3, 4, 1, 2], 4), False)

    def test_all_places_of_large_paths(self):
        for directions in samples.LARGE:
            sides = samples.sides_of(directions)
            path = sides.first()
            for p in samples.some_row(directions, 5):
                told = [place for place in range(-14, 15) if can(sides, path, place)]
                self.assertEqual(told, samples.places(directions, path))
                path = samples.swapped(path, p)

    def test_the_path_stays(self):
        path = [0, 2, 1, 3, 4]
        can(SIDES, path, 0)
        self.assertEqual(path, [0, 2, 1, 3, 4])


class TestExchanged(unittest.TestCase):
    def test_two_change_places(self):
        self.assertEqual(exchanged(SIDES, [0, 1, 2, 3, 4], 1), [0, 2, 1, 3, 4])
        self.assertEqual(exchanged(SIDES, [0, 2, 1, 3, 4], 0), [2, 0, 1, 3, 4])
        self.assertEqual(exchanged(SIDES, [0, 3, 4, 1, 2], 3), [0, 3, 4, 2, 1])

    def test_a_new_list(self):
        path = [0, 1, 2, 3, 4]
        told = exchanged(SIDES, path, 1)
        self.assertEqual(path, [0, 1, 2, 3, 4])
        told.append(9)
        self.assertEqual(exchanged(SIDES, path, 1), [0, 2, 1, 3, 4])
        path.clear()
        self.assertEqual(told, [0, 2, 1, 3, 4, 9])


class RowCase(unittest.TestCase):
    def refused(self, sides, row, step):
        before = copy.deepcopy(row)
        with self.assertRaises(NoRow) as taken:
            paths(sides, row)
        self.assertEqual(taken.exception.step, step)
        self.assertIsInstance(taken.exception, SlantError)
        self.assertIs(is_whole_row(sides, row), False)
        self.assertEqual(row, before)


class TestPaths(RowCase):
    def test_some_paths(self):
        self.assertEqual(paths(SIDES, ROW), PATHS)
        self.assertIs(is_whole_row(SIDES, ROW), True)

    def test_one_exchange(self):
        sides = samples.sides_of(samples.ONE_TILE)
        self.assertEqual(paths(sides, [0]), [[0, 1], [1, 0]])

    def test_every_whole_row_is_taken(self):
        for directions in samples.SMALL:
            sides = samples.sides_of(directions)
            for row in samples.every_row(directions)[:3000]:
                told = paths(sides, row)
                self.assertEqual(told[0], sides.first())
                self.assertEqual(told[-1], sides.last())
                self.assertEqual(len(told), len(sides.pairs()) + 1)
                for p, path, behind in zip(row, told, told[1:]):
                    self.assertEqual(behind, samples.swapped(path, p))
                self.assertIs(is_whole_row(sides, row), True)

    def test_large_rows(self):
        for directions in samples.ALL:
            sides = samples.sides_of(directions)
            for seed in range(5):
                row = samples.some_row(directions, seed)
                self.assertEqual(paths(sides, row)[-1], sides.last())
                self.assertIs(is_whole_row(sides, row), True)

    def test_all_rows_of_small_numbers(self):
        directions = samples.THREE_SINGLE
        sides = samples.sides_of(directions)
        whole = samples.every_row(directions)
        for number in range(4 ** 4):
            row = [number // 4 ** k % 4 - 1 for k in range(4)]
            for length in range(5):
                self.assertIs(is_whole_row(sides, row[:length]), row[:length] in whole)


class TestRefusedRows(RowCase):
    def test_no_exchanges(self):
        for directions in samples.ALL:
            self.refused(samples.sides_of(directions), [], 0)

    def test_ends_early(self):
        for length in range(len(ROW)):
            self.refused(SIDES, ROW[:length], length)
        for directions in samples.LARGE:
            row = samples.some_row(directions, 3)
            self.refused(samples.sides_of(directions), row[:-1], len(row) - 1)

    def test_goes_on_behind_the_last_path(self):
        for p in (-1, 0, 1, 2, 3, 4, 999999999999):
            self.refused(SIDES, ROW + [p], len(ROW))
        self.refused(SIDES, ROW + ROW, len(ROW))
        self.refused(SIDES, ROW + [0] * 992, len(ROW))

    def test_an_exchange_that_cannot_be_made(self):
        for step in range(len(ROW)):
            can_be = samples.places(samples.THREE, PATHS[step])
            for p in (-999999999999, -5, -1, 0, 1, 2, 3, 4, 5, 999999999999):
                if p not in can_be:
                    self.refused(SIDES, ROW[:step] + [p] + ROW[step + 1:], step)

    def test_the_first_of_several(self):
        self.refused(SIDES, [1, 0, 0, 7, -1], 2)
        self.refused(SIDES, [7, -1], 0)

    def test_of_alike_bands(self):
        self.refused(SIDES, [0], 0)
        self.refused(SIDES, [3], 0)

    def test_back_and_forth(self):
        self.refused(SIDES, [1, 1], 1)
        self.refused(samples.sides_of(samples.ONE_TILE), [0, 0], 1)

    def test_a_thousand(self):
        self.refused(SIDES, [1] * 1000, 1)
        self.refused(SIDES, [-1] * 1000, 0)


class TestNothingKept(RowCase):
    def test_the_row_stays(self):
        row = list(ROW)
        paths(SIDES, row)
        is_whole_row(SIDES, row)
        self.assertEqual(row, ROW)

    def test_what_is_told_may_be_changed(self):
        told = paths(SIDES, ROW)
        told[0].clear()
        told[3].append(9)
        told[-1].reverse()
        self.assertEqual(told[1], PATHS[1])
        told.pop()
        self.assertEqual(paths(SIDES, ROW), PATHS)
        self.assertEqual(SIDES.first(), [0, 1, 2, 3, 4])
        self.assertEqual(SIDES.last(), [3, 4, 2, 0, 1])

    def test_each_path_is_a_list_of_its_own(self):
        told = paths(SIDES, ROW)
        self.assertEqual(len({id(path) for path in told}), len(told))


if __name__ == "__main__":
    unittest.main()
