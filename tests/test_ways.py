import unittest

import samples
from slantfloor.flips import flippable, flipped, low
from slantfloor.threes import floor_by, threes, up
from slantfloor.ways import unlike, way

HEXAGON = samples.sides_of(samples.THREE_SINGLE)
UP = [(0, 1, ()), (0, 2, (1,)), (1, 2, ())]
DOWN = [(0, 1, (2,)), (0, 2, ()), (1, 2, (0,))]


class WayCase(unittest.TestCase):
    def leads(self, directions, one, other):
        sides = samples.sides_of(directions)
        told = way(sides, one, other)
        self.assertIsInstance(told, list)
        floor = one
        for three in told:
            self.assertIn(three, flippable(sides, floor))
            floor = flipped(sides, floor, three)
        self.assertEqual(floor, other)
        ups = samples.ups_by_hand(directions, one)
        others = samples.ups_by_hand(directions, other)
        apart = sorted(set(ups) ^ set(others))
        self.assertEqual(unlike(sides, one, other), apart)
        if len(directions) <= 3:
            self.assertEqual(sorted(told), apart)
        self.assertGreaterEqual(len(told), len(apart))
        self.assertLessEqual(len(told), len(ups) + len(others))


class TestWay(WayCase):
    def test_hexagon(self):
        self.assertEqual(way(HEXAGON, UP, DOWN), [(0, 1, 2)])
        self.assertEqual(way(HEXAGON, DOWN, UP), [(0, 1, 2)])
        self.assertEqual(unlike(HEXAGON, UP, DOWN), [(0, 1, 2)])
        self.assertEqual(unlike(HEXAGON, DOWN, UP), [(0, 1, 2)])

    def test_from_a_floor_to_itself(self):
        for directions in samples.ALL:
            sides = samples.sides_of(directions)
            floor = samples.tiles_by_hand(directions, samples.some_row(directions, 3))
            self.assertEqual(unlike(sides, floor, list(floor)), [])
            self.leads(directions, floor, list(floor))
        self.assertEqual(way(HEXAGON, UP, list(UP)), [])

    def test_two_directions(self):
        for directions in (samples.ONE_TILE, samples.TWO, samples.TWELVE_TWO):
            sides = samples.sides_of(directions)
            self.assertEqual(way(sides, low(sides), low(sides)), [])
            self.assertEqual(unlike(sides, low(sides), low(sides)), [])

    def test_every_two_floors(self):
        for directions in samples.SMALL:
            floors = samples.every_floor(directions)
            for one in floors[::max(1, len(floors) // 20)]:
                for other in floors:
                    self.leads(directions, one, other)

    def test_six_directions(self):
        floors = samples.every_floor(samples.SIX)
        for one in floors[::100]:
            for other in floors[7::90]:
                self.leads(samples.SIX, one, other)

    def test_from_low_to_high(self):
        for directions in samples.ALL:
            sides = samples.sides_of(directions)
            high = floor_by(sides, threes(sides))
            self.leads(directions, low(sides), high)
            self.leads(directions, high, low(sides))
            self.assertEqual(sorted(way(sides, low(sides), high)), threes(sides))

    def test_twelve_bands(self):
        for directions in samples.LARGE:
            for seed in range(3):
                one = samples.tiles_by_hand(directions, samples.some_row(directions, seed))
                other = samples.tiles_by_hand(directions, samples.some_row(directions, seed + 50))
                self.leads(directions, one, other)

    def test_three_directions_with_threes_up_in_each_alone(self):
        floors = samples.every_floor(samples.THREE_MIDDLE)
        sides = samples.sides_of(samples.THREE_MIDDLE)
        apart = [
            (one, other) for one in floors for other in floors
            if set(up(sides, one)) - set(up(sides, other)) and set(up(sides, other)) - set(up(sides, one))
        ]
        self.assertTrue(apart)
        for one, other in apart:
            self.leads(samples.THREE_MIDDLE, one, other)


class TestNothingKept(WayCase):
    def test_what_is_handed_in_stays(self):
        directions = samples.FOUR
        sides = samples.sides_of(directions)
        one = samples.every_floor(directions)[3]
        other = samples.every_floor(directions)[-1]
        first, second = list(one), list(other)
        told = way(sides, one, other)
        apart = unlike(sides, one, other)
        self.assertEqual((one, other), (first, second))
        wanted = (list(told), list(apart))
        one.clear()
        other.clear()
        self.assertEqual((told, apart), wanted)

    def test_what_is_told_may_be_changed(self):
        way(HEXAGON, UP, DOWN).clear()
        unlike(HEXAGON, UP, DOWN).append(1)
        self.assertEqual(way(HEXAGON, UP, DOWN), [(0, 1, 2)])
        self.assertEqual(unlike(HEXAGON, UP, DOWN), [(0, 1, 2)])
        self.assertEqual(up(HEXAGON, UP), [(0, 1, 2)])


if __name__ == "__main__":
    unittest.main()
