import unittest

import samples
from slantfloor.counts import product
from slantfloor.errors import SlantError, TooMany
from slantfloor.listing import all_floors


class TestAllFloors(unittest.TestCase):
    def refused(self, directions, most):
        with self.assertRaises(TooMany) as taken:
            all_floors(samples.sides_of(directions), most)
        self.assertIsInstance(taken.exception, SlantError)

    def test_two_directions(self):
        self.assertEqual(all_floors(samples.sides_of(samples.ONE_TILE), 1), [[(0, 1, ())]])
        for directions in (samples.TWO, samples.TWELVE_TWO):
            floor = samples.tiles_by_hand(directions, samples.some_row(directions, 0))
            self.assertEqual(all_floors(samples.sides_of(directions), 1), [floor])
            self.assertEqual(all_floors(samples.sides_of(directions), 300), [floor])

    def test_hexagon(self):
        self.assertEqual(
            all_floors(samples.sides_of(samples.THREE_SINGLE), 2),
            [[(0, 1, ()), (0, 2, (1,)), (1, 2, ())], [(0, 1, (2,)), (0, 2, ()), (1, 2, (0,))]],
        )

    def test_all_each_once_sorted(self):
        for directions in samples.SMALL:
            self.assertEqual(all_floors(samples.sides_of(directions), 300), samples.every_floor(directions))

    def test_as_many_as_the_product(self):
        for p, q, r in ((1, 1, 10), (10, 1, 1), (1, 10, 1), (2, 2, 2), (3, 2, 2), (2, 3, 2), (4, 4, 1), (1, 2, 9)):
            sides = samples.sides_of([(1, 0, p), (1, 1, q), (0, 1, r)])
            self.assertEqual(len(all_floors(sides, 300)), product(p, q, r))

    def test_most_of_just_as_many(self):
        for directions in samples.SMALL:
            floors = samples.every_floor(directions)
            self.assertEqual(all_floors(samples.sides_of(directions), len(floors)), floors)

    def test_most_of_one_fewer(self):
        for directions in samples.SMALL:
            self.refused(directions, len(samples.every_floor(directions)) - 1)

    def test_most_of_none(self):
        for directions in samples.ALL:
            self.refused(directions, 0)

    def test_hundreds(self):
        sides = samples.sides_of([(1, 0, 1), (1, 1, 4), (0, 1, 6)])
        self.assertEqual(len(all_floors(sides, 300)), 210)
        self.assertEqual(len(all_floors(sides, 210)), 210)
        self.refused([(1, 0, 1), (1, 1, 4), (0, 1, 6)], 209)

    def test_more_than_could_be_listed(self):
        for directions in (samples.TWELVE_THREE, samples.TWELVE_FOUR, samples.TWELVE_SIX):
            for most in (0, 1, 2, 17, 300):
                self.refused(directions, most)
        self.refused(samples.SIX, 300)

    def test_lists_told_may_be_changed(self):
        sides = samples.sides_of(samples.THREE)
        wanted = samples.every_floor(samples.THREE)
        told = all_floors(sides, 300)
        told[0].clear()
        told[1].append(3)
        self.assertEqual(told[2:], wanted[2:])
        told.pop()
        self.assertEqual(all_floors(sides, 300), wanted)


if __name__ == "__main__":
    unittest.main()
