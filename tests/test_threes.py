import itertools
import unittest

import samples
from slantfloor.errors import NoThrees, SlantError
from slantfloor.floors import laid
from slantfloor.threes import floor_by, threes, up

HEXAGON = samples.sides_of(samples.THREE_SINGLE)
UP = [(0, 1, ()), (0, 2, (1,)), (1, 2, ())]
DOWN = [(0, 1, (2,)), (0, 2, ()), (1, 2, (0,))]
# Four directions of one band each, so that the four threes are just those of one four.
OCTAGON = [(1, 0, 1), (1, 1, 1), (0, 1, 1), (-1, 1, 1)]


def every_choice(things):
    for count in range(len(things) + 1):
        for some in itertools.combinations(things, count):
            yield list(some)


class TestThrees(unittest.TestCase):
    def test_none_with_two_directions(self):
        self.assertEqual(threes(samples.sides_of(samples.ONE_TILE)), [])
        self.assertEqual(threes(samples.sides_of(samples.TWELVE_TWO)), [])

    def test_some(self):
        self.assertEqual(threes(HEXAGON), [(0, 1, 2)])
        self.assertEqual(threes(samples.sides_of(samples.THREE)), [(0, 2, 3), (0, 2, 4), (1, 2, 3), (1, 2, 4)])
        self.assertEqual(
            threes(samples.sides_of(samples.FOUR)),
            [(0, 1, 3), (0, 1, 4), (0, 2, 3), (0, 2, 4), (0, 3, 4), (1, 3, 4), (2, 3, 4)],
        )

    def test_all_of_three_kinds_sorted(self):
        for directions in samples.ALL:
            kinds = samples.kinds_of(directions)
            wanted = [
                three for three in itertools.combinations(range(len(kinds)), 3)
                if len({kinds[band] for band in three}) == 3
            ]
            self.assertEqual(threes(samples.sides_of(directions)), wanted)

    def test_how_many(self):
        self.assertEqual(len(threes(samples.sides_of(samples.TWELVE_THREE))), 64)
        self.assertEqual(len(threes(samples.sides_of(samples.TWELVE_SIX))), 160)


class TestUp(unittest.TestCase):
    def test_both_floors_of_a_hexagon(self):
        self.assertEqual(up(HEXAGON, UP), [(0, 1, 2)])
        self.assertEqual(up(HEXAGON, DOWN), [])

    def test_none_with_two_directions(self):
        sides = samples.sides_of(samples.TWO)
        self.assertEqual(up(sides, laid(sides, samples.some_row(samples.TWO, 1))), [])

    def test_where_the_middle_band_is_below(self):
        for directions in samples.ALL:
            sides = samples.sides_of(directions)
            for seed in range(6):
                floor = samples.tiles_by_hand(directions, samples.some_row(directions, seed))
                self.assertEqual(up(sides, floor), samples.ups_by_hand(directions, floor))

    def test_unlike_floors_have_unlike_threes(self):
        for directions in samples.SMALL + (samples.SIX,):
            sides = samples.sides_of(directions)
            floors = samples.every_floor(directions)
            told = {tuple(up(sides, floor)) for floor in floors}
            self.assertEqual(len(told), len(floors))


class TestFloorBy(unittest.TestCase):
    def refused(self, sides, some):
        before = list(some)
        with self.assertRaises(NoThrees) as taken:
            floor_by(sides, some)
        self.assertIsInstance(taken.exception, SlantError)
        self.assertEqual(some, before)

    def test_both_floors_of_a_hexagon(self):
        self.assertEqual(floor_by(HEXAGON, [(0, 1, 2)]), UP)
        self.assertEqual(floor_by(HEXAGON, []), DOWN)

    def test_two_directions(self):
        for directions in (samples.ONE_TILE, samples.TWO, samples.TWELVE_TWO):
            sides = samples.sides_of(directions)
            self.assertEqual(floor_by(sides, []), samples.tiles_by_hand(directions, samples.some_row(directions, 4)))

    def test_every_floor_is_told_by_its_threes(self):
        for directions in samples.SMALL + (samples.SIX,):
            sides = samples.sides_of(directions)
            for floor in samples.every_floor(directions):
                self.assertEqual(floor_by(sides, up(sides, floor)), floor)

    def test_large_floors(self):
        for directions in samples.LARGE:
            sides = samples.sides_of(directions)
            for seed in range(4):
                floor = samples.tiles_by_hand(directions, samples.some_row(directions, seed))
                self.assertEqual(floor_by(sides, samples.ups_by_hand(directions, floor)), floor)

    def test_in_any_order(self):
        sides = samples.sides_of(samples.TWELVE_FOUR)
        floor = samples.tiles_by_hand(samples.TWELVE_FOUR, samples.some_row(samples.TWELVE_FOUR, 9))
        self.assertEqual(floor_by(sides, up(sides, floor)[::-1]), floor)

    def test_just_these_sets_and_no_others(self):
        for directions in (samples.THREE, samples.THREE_SINGLE, samples.THREE_MIDDLE, samples.FOUR,
                           samples.FOUR_ALIKE, OCTAGON, samples.FIVE):
            sides = samples.sides_of(directions)
            floors = {tuple(up(sides, floor)): floor for floor in samples.every_floor(directions)}
            taken = 0
            for some in every_choice(threes(sides)):
                try:
                    told = floor_by(sides, some)
                except NoThrees:
                    self.assertNotIn(tuple(some), floors)
                else:
                    self.assertEqual(told, floors[tuple(some)])
                    taken += 1
            self.assertEqual(taken, len(floors))

    def test_first_few_and_last_few_of_one_four(self):
        sides = samples.sides_of(OCTAGON)
        four = [(0, 1, 2), (0, 1, 3), (0, 2, 3), (1, 2, 3)]
        fine = [four[:count] for count in range(5)] + [four[count:] for count in range(1, 4)]
        for some in fine:
            self.assertEqual(up(sides, floor_by(sides, some)), some)
        for some in every_choice(four):
            if some not in fine:
                self.refused(sides, some)

    def test_two_alike_among_four(self):
        # The lesser of two alike bands of the first kind up, so the greater too.
        first = samples.sides_of([(1, 0, 2), (1, 1, 1), (0, 1, 1)])
        self.refused(first, [(0, 2, 3)])
        self.assertEqual(up(first, floor_by(first, [(1, 2, 3)])), [(1, 2, 3)])
        middle = samples.sides_of([(1, 0, 1), (1, 1, 2), (0, 1, 1)])
        self.refused(middle, [(0, 2, 3)])
        self.assertEqual(up(middle, floor_by(middle, [(0, 1, 3)])), [(0, 1, 3)])
        last = samples.sides_of([(1, 0, 1), (1, 1, 1), (0, 1, 2)])
        self.refused(last, [(0, 1, 2)])
        self.assertEqual(up(last, floor_by(last, [(0, 1, 3)])), [(0, 1, 3)])

    def test_three_alike_among_four(self):
        for place in range(3):
            directions = [(1, 0, 1), (1, 1, 1), (0, 1, 1)]
            directions[place] = directions[place][:2] + (3,)
            sides = samples.sides_of(directions)
            floors = samples.every_floor(directions)
            self.assertEqual(len(floors), 4)
            for floor in floors:
                self.assertEqual(floor_by(sides, samples.ups_by_hand(directions, floor)), floor)

    def test_none_and_all(self):
        for directions in samples.ALL:
            sides = samples.sides_of(directions)
            self.assertEqual(up(sides, floor_by(sides, [])), [])
            self.assertEqual(up(sides, floor_by(sides, threes(sides))), threes(sides))

    def test_one_of_many(self):
        sides = samples.sides_of(samples.TWELVE_SIX)
        floor = samples.tiles_by_hand(samples.TWELVE_SIX, samples.some_row(samples.TWELVE_SIX, 6))
        some = up(sides, floor)
        # Bands 0 1 2 .. 5 are those of the first three kinds, two of each: this one lies amid the others.
        self.refused(sides, [(0, 2, 4)])
        self.refused(sides, [three for three in threes(sides) if three != (1, 3, 5)])
        self.assertEqual(floor_by(sides, some), floor)

    def test_what_is_no_three(self):
        for wrong in ((0, 1, 2), (2, 0, 3), (0, 2, 2), (-1, 2, 3), (0, 2, 5)):
            self.refused(samples.sides_of(samples.THREE), [wrong])


class TestNothingKept(unittest.TestCase):
    def test_what_is_handed_in_stays(self):
        some = [(0, 1, 2)]
        floor = list(UP)
        told = floor_by(HEXAGON, some)
        ups = up(HEXAGON, floor)
        self.assertEqual((some, floor), ([(0, 1, 2)], UP))
        some.clear()
        floor.clear()
        self.assertEqual((told, ups), (UP, [(0, 1, 2)]))

    def test_what_is_told_may_be_changed(self):
        for told in (threes(HEXAGON), up(HEXAGON, UP), floor_by(HEXAGON, [(0, 1, 2)])):
            told.append(5)
            told.reverse()
        self.assertEqual(threes(HEXAGON), [(0, 1, 2)])
        self.assertEqual(up(HEXAGON, UP), [(0, 1, 2)])
        self.assertEqual(floor_by(HEXAGON, [(0, 1, 2)]), UP)


if __name__ == "__main__":
    unittest.main()
