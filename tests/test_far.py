import unittest

import samples
from slantfloor.far import road

HEXAGON = samples.sides_of(samples.THREE_SINGLE)


class TestRoad(unittest.TestCase):
    def walk(self, one, steps):
        """Goes the road from one row on, each step a lawful one."""
        row = list(one)
        for k in steps:
            self.assertGreaterEqual(k, 0)
            self.assertLess(k + 1, len(row))
            self.assertGreaterEqual(abs(row[k] - row[k + 1]), 2)
            row[k], row[k + 1] = row[k + 1], row[k]
        return row

    def leads(self, directions, one, other):
        told = road(samples.sides_of(directions), one, other)
        self.assertIsInstance(told, list)
        self.assertLessEqual(len(told), 2000)
        self.assertEqual(self.walk(one, told), other)

    def test_one_step(self):
        sides = samples.sides_of([(1, 0, 2), (0, 1, 2)])
        self.assertEqual(road(sides, [1, 0, 2, 1], [1, 2, 0, 1]), [1])
        self.assertEqual(road(sides, [1, 2, 0, 1], [1, 0, 2, 1]), [1])

    def test_a_row_and_itself(self):
        for directions in samples.ALL:
            row = samples.some_row(directions, 2)
            self.assertEqual(self.walk(row, road(samples.sides_of(directions), row, list(row))), row)

    def test_two_floors(self):
        self.assertIsNone(road(HEXAGON, [0, 1, 0], [1, 0, 1]))
        self.assertIsNone(road(HEXAGON, [1, 0, 1], [0, 1, 0]))

    def test_just_where_the_floors_are_the_same(self):
        for directions in samples.SMALL:
            sides = samples.sides_of(directions)
            rows = samples.every_row(directions)
            for one in rows[::max(1, len(rows) // 40)]:
                for other in rows[::max(1, len(rows) // 90)]:
                    same = samples.tiles_by_hand(directions, one) == samples.tiles_by_hand(directions, other)
                    if same:
                        self.leads(directions, one, other)
                    else:
                        self.assertIsNone(road(sides, one, other))

    def test_rows_of_twelve_bands(self):
        for directions in samples.LARGE:
            for seed in range(6):
                one = samples.some_row(directions, seed)
                other = samples.shuffled(directions, one, seed + 100)
                self.leads(directions, one, other)
                self.leads(directions, other, one)

    def test_the_least_and_the_greatest_row_of_twelve_bands(self):
        for directions in samples.LARGE:
            for seed in range(6):
                one = samples.some_row(directions, seed)
                least, greatest = self.sunk(one, 1), self.sunk(one, -1)
                self.leads(directions, least, greatest)
                self.leads(directions, greatest, least)

    def sunk(self, row, sign):
        row = list(row)
        changed = True
        while changed:
            changed = False
            for k in range(len(row) - 1):
                if sign * (row[k] - row[k + 1]) >= 2:
                    row[k], row[k + 1] = row[k + 1], row[k]
                    changed = True
        return row

    def test_floors_of_twelve_bands_that_differ(self):
        for directions in samples.LARGE[1:]:
            one = samples.some_row(directions, 1)
            other = samples.some_row(directions, 2)
            self.assertNotEqual(
                samples.tiles_by_hand(directions, one), samples.tiles_by_hand(directions, other)
            )
            self.assertIsNone(road(samples.sides_of(directions), one, other))

    def test_nothing_kept(self):
        sides = samples.sides_of([(1, 0, 2), (0, 1, 2)])
        one = [1, 0, 2, 1]
        other = [1, 2, 0, 1]
        told = road(sides, one, other)
        self.assertEqual((one, other), ([1, 0, 2, 1], [1, 2, 0, 1]))
        one.clear()
        other.clear()
        self.assertEqual(told, [1])
        told.append(5)
        self.assertEqual(road(sides, [1, 0, 2, 1], [1, 2, 0, 1]), [1])


if __name__ == "__main__":
    unittest.main()
