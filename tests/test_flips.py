import unittest

import samples
from slantfloor.errors import NoFlip, SlantError
from slantfloor.flips import flippable, flipped, low
from slantfloor.floors import is_floor
from slantfloor.threes import threes, up

HEXAGON = samples.sides_of(samples.THREE_SINGLE)
UP = [(0, 1, ()), (0, 2, (1,)), (1, 2, ())]
DOWN = [(0, 1, (2,)), (0, 2, ()), (1, 2, (0,))]


def with_band(below, band):
    return tuple(sorted(below + (band,)))


def can_by_hand(floor, a, b, c):
    """Whether one S fits the three tiles, as they stand up or as they stand down."""
    found = [tile for tile in floor if tile[:2] in ((a, b), (a, c), (b, c))]
    for s in {tile[2] for tile in found}:
        if found == [(a, b, s), (a, c, with_band(s, b)), (b, c, s)]:
            return True
        if found == [(a, b, with_band(s, c)), (a, c, s), (b, c, with_band(s, a))]:
            return True
    return False


class FlipCase(unittest.TestCase):
    def refused(self, sides, floor, three):
        before = list(floor)
        with self.assertRaises(NoFlip) as taken:
            flipped(sides, floor, three)
        self.assertIsInstance(taken.exception, SlantError)
        self.assertEqual(floor, before)


class TestFlipped(FlipCase):
    def test_hexagon(self):
        self.assertEqual(flipped(HEXAGON, UP, (0, 1, 2)), DOWN)
        self.assertEqual(flipped(HEXAGON, DOWN, (0, 1, 2)), UP)

    def test_with_bands_below(self):
        # Bands 0 1, 2, 3 4.
        sides = samples.sides_of(samples.THREE)
        floor = [
            (0, 2, ()), (0, 3, (2,)), (0, 4, (2, 3)), (1, 2, (0,)), (1, 3, (0, 2)), (1, 4, (0, 2, 3)),
            (2, 3, ()), (2, 4, (3,)),
        ]
        self.assertEqual(flippable(sides, floor), [(0, 2, 3)])
        wanted = [
            (0, 2, (3,)), (0, 3, ()), (0, 4, (2, 3)), (1, 2, (0,)), (1, 3, (0, 2)), (1, 4, (0, 2, 3)),
            (2, 3, (0,)), (2, 4, (3,)),
        ]
        self.assertEqual(flipped(sides, floor, (0, 2, 3)), wanted)
        self.assertEqual(flipped(sides, wanted, (0, 2, 3)), floor)

    def test_every_three_of_every_floor(self):
        for directions in samples.SMALL:
            sides = samples.sides_of(directions)
            for floor in samples.every_floor(directions):
                self.check_each_three(sides, floor)

    def test_large_floors(self):
        for directions in samples.LARGE:
            sides = samples.sides_of(directions)
            for seed in range(3):
                self.check_each_three(sides, samples.tiles_by_hand(directions, samples.some_row(directions, seed)))

    def check_each_three(self, sides, floor):
        can = flippable(sides, floor)
        self.assertEqual(can, [three for three in threes(sides) if can_by_hand(floor, *three)])
        for three in threes(sides):
            if three in can:
                self.check_flip(sides, floor, three)
            else:
                self.refused(sides, floor, three)

    def check_flip(self, sides, floor, three):
        told = flipped(sides, floor, three)
        self.assertIs(is_floor(sides, told), True)
        self.assertEqual(set(up(sides, told)) ^ set(up(sides, floor)), {three})
        changed = sorted(tile[:2] for tile in set(told) - set(floor))
        self.assertEqual(changed, [three[:2], (three[0], three[2]), three[1:]])
        self.assertEqual(flipped(sides, told, three), floor)

    def test_no_three(self):
        sides = samples.sides_of(samples.THREE)
        for three in (
            (0, 1, 2), (0, 1, 3), (2, 3, 4), (0, 3, 4), (0, 0, 3), (0, 2, 2), (2, 2, 2), (0, 0, 0),
            (3, 2, 0), (0, 3, 2), (2, 0, 3), (-1, 2, 3), (-5, 2, 3), (0, -3, 3), (0, 2, -1), (0, 2, -2), (0, 2, 5),
            (0, 5, 6), (5, 6, 7), (999999999999, 2, 3), (0, 999999999999, 3), (0, 2, 999999999999),
            (-999999999999, 2, 3), (0, 2, -999999999999), (-999999999999, 0, 999999999999),
        ):
            for seed in range(3):
                floor = samples.tiles_by_hand(samples.THREE, samples.some_row(samples.THREE, seed))
                self.refused(sides, floor, three)

    def test_two_directions(self):
        sides = samples.sides_of(samples.TWO)
        floor = samples.tiles_by_hand(samples.TWO, samples.some_row(samples.TWO, 0))
        self.assertEqual(flippable(sides, floor), [])
        for three in ((0, 1, 2), (0, 1, 3), (0, 3, 4), (2, 3, 4)):
            self.refused(sides, floor, three)


class TestLow(FlipCase):
    def test_hexagon(self):
        self.assertEqual(low(HEXAGON), DOWN)

    def test_two_directions(self):
        self.assertEqual(low(samples.sides_of(samples.ONE_TILE)), [(0, 1, ())])
        self.assertEqual(
            low(samples.sides_of(samples.TWO)),
            [(0, 3, ()), (0, 4, (3,)), (1, 3, (0,)), (1, 4, (0, 3)), (2, 3, (0, 1)), (2, 4, (0, 1, 3))],
        )

    def test_each_three_stands_down(self):
        for directions in samples.ALL:
            sides = samples.sides_of(directions)
            floor = low(sides)
            self.assertIs(is_floor(sides, floor), True)
            self.assertEqual(samples.ups_by_hand(directions, floor), [])

    def test_in_each_other_floor_one_can_fall(self):
        for directions in samples.SMALL + (samples.SIX,):
            sides = samples.sides_of(directions)
            for floor in samples.every_floor(directions):
                falling = set(flippable(sides, floor)) & set(up(sides, floor))
                self.assertIs(bool(falling), floor != low(sides))

    def test_large_floors_fall_to_the_low_one(self):
        for directions in samples.LARGE:
            sides = samples.sides_of(directions)
            floor = samples.tiles_by_hand(directions, samples.some_row(directions, 8))
            for turn in range(len(up(sides, floor))):
                three = sorted(set(flippable(sides, floor)) & set(up(sides, floor)))[-1]
                floor = flipped(sides, floor, three)
            self.assertEqual(floor, low(sides))


class TestNothingKept(FlipCase):
    def test_what_is_handed_in_stays(self):
        floor = list(UP)
        told = flipped(HEXAGON, floor, (0, 1, 2))
        can = flippable(HEXAGON, floor)
        self.assertEqual(floor, UP)
        floor.clear()
        self.assertEqual((told, can), (DOWN, [(0, 1, 2)]))

    def test_what_is_told_may_be_changed(self):
        floor = list(UP)
        for told in (flippable(HEXAGON, floor), flipped(HEXAGON, floor, (0, 1, 2)), low(HEXAGON)):
            told.reverse()
            told.append(1)
        self.assertEqual(floor, UP)
        self.assertEqual(flippable(HEXAGON, floor), [(0, 1, 2)])
        self.assertEqual(flipped(HEXAGON, floor, (0, 1, 2)), DOWN)
        self.assertEqual(low(HEXAGON), DOWN)


if __name__ == "__main__":
    unittest.main()
