import copy
import unittest

from slantfloor.errors import NoSides
from slantfloor.sides import Sides

# The most directions that there may be, each to the left of the one ahead.
SIX = [(1, 0, 1), (2, 1, 2), (1, 3, 3), (0, 1, 1), (-1, 2, 2), (-5, 1, 3)]
# Bands 0 1 of kind 0, band 2 of kind 1, bands 3 4 5 of kind 2.
SOME = [(3, 0, 2), (1, 1, 1), (-2, 5, 3)]
LARGEST = 999999999999


def end_of(sides, path):
    x = sum(sides.vector(band)[0] for band in path)
    y = sum(sides.vector(band)[1] for band in path)
    return (x, y)


class SidesCase(unittest.TestCase):
    def taken(self, directions):
        sides = Sides(directions)
        self.assertEqual(sides.many(), sum(many for x, y, many in directions))
        return sides

    def refused(self, directions):
        before = copy.deepcopy(directions)
        with self.assertRaises(NoSides):
            Sides(directions)
        self.assertEqual(directions, before)


class TestHowManyDirections(SidesCase):
    def test_two(self):
        self.taken([(1, 0, 1), (0, 1, 1)])

    def test_three_four_five_six(self):
        for count in (3, 4, 5, 6):
            with self.subTest(count=count):
                self.taken(SIX[:count])

    def test_none(self):
        self.refused([])

    def test_one(self):
        self.refused([(1, 0, 1)])
        self.refused([(1, 1, 12)])

    def test_seven(self):
        self.refused([(3 - k, 1, 1) for k in range(7)])
        self.taken([(3 - k, 1, 1) for k in range(6)])

    def test_a_thousand(self):
        self.refused([(500 - k, 1, 1) for k in range(1000)])


class TestMany(SidesCase):
    def test_twelve_together(self):
        self.taken([(1, 0, 11), (0, 1, 1)])
        self.taken([(1, 0, 1), (0, 1, 11)])
        self.taken([(1, 0, 4), (1, 1, 4), (0, 1, 4)])
        self.taken([(3 - k, 1, 2) for k in range(6)])

    def test_thirteen_together(self):
        self.refused([(1, 0, 12), (0, 1, 1)])
        self.refused([(1, 0, 1), (0, 1, 12)])
        self.refused([(1, 0, 4), (1, 1, 5), (0, 1, 4)])
        self.refused([(1, 0, 13), (0, 1, 13)])

    def test_more_than_could_be_listed(self):
        self.refused([(1, 0, 10 ** 12), (0, 1, 1)])
        self.refused([(1, 0, 1), (0, 1, 10 ** 299)])

    def test_none(self):
        self.refused([(1, 0, 0), (0, 1, 1)])
        self.refused([(1, 0, 1), (0, 1, 0)])
        self.refused([(1, 0, 2), (1, 1, 0), (0, 1, 2)])

    def test_below_none(self):
        self.refused([(1, 0, -1), (0, 1, 1)])
        self.refused([(1, 0, 3), (0, 1, -1)])
        # Together these would be few enough.
        self.refused([(1, 0, 14), (0, 1, -2)])
        self.refused([(1, 0, 1), (0, 1, -(10 ** 12))])


class TestFigures(SidesCase):
    def test_twelve_figures(self):
        self.taken([(LARGEST, 0, 1), (0, 1, 1)])
        self.taken([(1, 0, 1), (LARGEST, 1, 1)])
        self.taken([(1, 0, 1), (-LARGEST, 1, 1)])
        self.taken([(1, 0, 1), (0, LARGEST, 1)])
        self.taken([(LARGEST, LARGEST, 1), (-LARGEST, LARGEST, 1)])

    def test_thirteen_figures(self):
        self.refused([(LARGEST + 1, 0, 1), (0, 1, 1)])
        self.refused([(1, 0, 1), (LARGEST + 1, 1, 1)])
        self.refused([(1, 0, 1), (-LARGEST - 1, 1, 1)])
        self.refused([(1, 0, 1), (0, LARGEST + 1, 1)])
        self.refused([(1, LARGEST + 1, 1), (0, 1, 1)])

    def test_many_more_figures(self):
        self.refused([(10 ** 299, 0, 1), (0, 1, 1)])
        self.refused([(1, 0, 1), (-(10 ** 299), 1, 1)])
        self.refused([(1, 0, 1), (0, 10 ** 299, 1)])

    def test_below_zero_with_twelve_and_thirteen_figures(self):
        # These are to the left of the one ahead, but point down.
        self.refused([(0, 1, 1), (-1, -LARGEST, 1)])
        self.refused([(0, 1, 1), (-1, -LARGEST - 1, 1)])

    def test_large_ones_are_told_apart_to_the_last_figure(self):
        flatter = (LARGEST - 1, LARGEST - 2, 1)
        steeper = (LARGEST, LARGEST - 1, 1)
        self.taken([flatter, steeper])
        self.refused([steeper, flatter])


class TestPointing(SidesCase):
    def test_straight_to_the_right(self):
        self.taken([(1, 0, 1), (0, 1, 1)])
        self.taken([(7, 0, 1), (-7, 1, 1)])

    def test_nowhere(self):
        self.refused([(0, 0, 1), (0, 1, 1)])
        self.refused([(1, 0, 1), (0, 0, 1)])
        self.refused([(1, 0, 1), (0, 0, 1), (0, 1, 1)])

    def test_straight_to_the_left(self):
        self.refused([(1, 0, 1), (-1, 0, 1)])
        self.refused([(-1, 0, 1), (0, 1, 1)])
        # To the left of the one ahead, and refused all the same.
        self.refused([(0, 1, 1), (-1, 0, 1)])
        self.refused([(1, 0, 1), (0, 1, 1), (-1, 0, 1)])

    def test_down(self):
        # To the left of the one ahead, and refused all the same.
        self.refused([(1, -1, 1), (0, 1, 1)])
        self.refused([(0, -1, 1), (1, 0, 1)])
        self.refused([(0, 1, 1), (-1, -1, 1)])


class TestToTheLeft(SidesCase):
    def test_neighbours_alike(self):
        self.refused([(1, 0, 1), (1, 0, 1)])
        self.refused([(1, 1, 1), (2, 2, 1)])
        self.refused([(3, 0, 1), (2, 0, 1)])
        self.refused([(1, 0, 1), (0, 1, 1), (0, 5, 1)])
        self.refused([(-4, 2, 1), (-2, 1, 1)])

    def test_neighbours_turned_round(self):
        self.refused([(0, 1, 1), (1, 0, 1)])
        self.refused([(-1, 1, 1), (1, 1, 1)])
        self.refused([(1, 0, 1), (0, 1, 1), (1, 1, 1)])
        self.refused([(1, 0, 1), (-1, 1, 1), (0, 1, 1), (-2, 1, 1)])
        self.refused(SIX[:4] + [SIX[5], SIX[4]])
        self.refused([SIX[1], SIX[0]] + SIX[2:])

    def test_alike_but_not_neighbours(self):
        self.refused([(1, 0, 1), (0, 1, 1), (1, 0, 1)])

    def test_just_to_the_left(self):
        self.taken([(LARGEST, 0, 1), (LARGEST, 1, 1)])
        self.taken([(3, 2, 1), (1, 1, 1), (2, 3, 1)])


class TestWrongForms(SidesCase):
    def test_other_lengths(self):
        for wrong in ((), (1,), (0, 1), (0, 1, 1, 1), (0, 1, 1) * 6 + (0, 1)):
            with self.subTest(wrong=wrong):
                self.refused([(1, 0, 1), wrong])
        self.refused([(1, 0), (0, 1, 1)])
        self.refused([(1, 0, 1, None), (0, 1, 1)])
        self.refused([(1, 0, 1), (1, 1), (0, 1, 1)])

    def test_other_parts(self):
        for part in (True, False, None, "", "1", "0", "one"):
            with self.subTest(part=part):
                self.refused([(part, 0, 1), (0, 1, 1)])
                self.refused([(1, part, 1), (0, 1, 1)])
                self.refused([(1, 0, part), (0, 1, 1)])
                self.refused([(1, 0, 1), (part, 1, 1)])
                self.refused([(1, 0, 1), (0, part, 1)])
                self.refused([(1, 0, 1), (0, 1, part)])

    def test_truths_that_would_fit_as_numbers(self):
        self.taken([(1, 0, 1), (0, 1, 1)])
        self.refused([(True, 0, 1), (0, 1, 1)])
        self.refused([(1, False, 1), (0, 1, 1)])
        self.refused([(1, 0, True), (0, 1, 1)])
        self.refused([(1, 0, 1), (False, True, True)])

    def test_wrong_in_several_ways(self):
        self.refused([(None, None, None)])
        self.refused([("x", True)] * 1000)
        self.refused([(), ()])
        self.refused([(1, 0, 1)] * 6 + [(0, "1", 1)])

    def test_no_list_of_tuples(self):
        with self.assertRaises(NoSides):
            Sides(((1, 0, 1), (0, 1, 1)))
        with self.assertRaises(NoSides):
            Sides([[1, 0, 1], [0, 1, 1]])


class TestBands(SidesCase):
    def test_how_many(self):
        self.assertEqual(Sides(SOME).many(), 6)
        self.assertEqual(Sides(SIX).many(), 12)

    def test_kinds(self):
        sides = Sides(SOME)
        self.assertEqual([sides.kind(band) for band in range(6)], [0, 0, 1, 2, 2, 2])
        sides = Sides(SIX)
        self.assertEqual([sides.kind(band) for band in range(12)], [0, 1, 1, 2, 2, 2, 3, 4, 4, 5, 5, 5])

    def test_vectors(self):
        sides = Sides(SOME)
        self.assertEqual(
            [sides.vector(band) for band in range(6)],
            [(3, 0), (3, 0), (1, 1), (-2, 5), (-2, 5), (-2, 5)],
        )
        self.assertIsInstance(sides.vector(0), tuple)

    def test_vectors_are_not_shortened(self):
        sides = Sides([(4, 0, 1), (-LARGEST, LARGEST, 1)])
        self.assertEqual(sides.vector(0), (4, 0))
        self.assertEqual(sides.vector(1), (-LARGEST, LARGEST))

    def test_pairs(self):
        self.assertEqual(Sides([(1, 0, 1), (0, 1, 1)]).pairs(), [(0, 1)])
        self.assertEqual(
            Sides(SOME).pairs(),
            [(0, 2), (0, 3), (0, 4), (0, 5), (1, 2), (1, 3), (1, 4), (1, 5), (2, 3), (2, 4), (2, 5)],
        )

    def test_pairs_are_all_that_cross(self):
        for directions in (SOME, SIX, [(1, 0, 11), (0, 1, 1)], [(3 - k, 1, 2) for k in range(6)]):
            sides = Sides(directions)
            wanted = [
                (a, b) for a in range(sides.many()) for b in range(sides.many())
                if a < b and sides.kind(a) != sides.kind(b)
            ]
            self.assertEqual(sides.pairs(), wanted)
            self.assertEqual(sides.pairs(), sorted(sides.pairs()))


class TestPaths(SidesCase):
    def test_first(self):
        self.assertEqual(Sides([(1, 0, 1), (0, 1, 1)]).first(), [0, 1])
        self.assertEqual(Sides(SOME).first(), [0, 1, 2, 3, 4, 5])
        self.assertEqual(Sides(SIX).first(), list(range(12)))

    def test_last(self):
        self.assertEqual(Sides([(1, 0, 1), (0, 1, 1)]).last(), [1, 0])
        self.assertEqual(Sides([(1, 0, 3), (0, 1, 2)]).last(), [3, 4, 0, 1, 2])
        self.assertEqual(Sides(SOME).last(), [3, 4, 5, 2, 0, 1])
        self.assertEqual(Sides(SIX).last(), [9, 10, 11, 7, 8, 6, 3, 4, 5, 1, 2, 0])

    def test_they_are_lists(self):
        self.assertIsInstance(Sides(SOME).first(), list)
        self.assertIsInstance(Sides(SOME).last(), list)
        self.assertIsInstance(Sides(SOME).pairs(), list)

    def test_both_rims_end_in_one_point(self):
        for directions in (SOME, SIX):
            sides = Sides(directions)
            wanted = (sum(x * many for x, y, many in directions), sum(y * many for x, y, many in directions))
            self.assertEqual(end_of(sides, sides.first()), wanted)
            self.assertEqual(end_of(sides, sides.last()), wanted)

    def test_the_rims_have_the_polygon_between_them(self):
        sides = Sides(SIX)
        right = sides.first()
        left = sides.last()
        for count in range(1, 12):
            x1, y1 = end_of(sides, right[:count])
            x2, y2 = end_of(sides, left[:count])
            self.assertGreater(x1 * y2 - x2 * y1, 0)


def all_told(sides):
    bands = range(sides.many())
    return (
        sides.many(), [sides.kind(band) for band in bands], [sides.vector(band) for band in bands],
        sides.pairs(), sides.first(), sides.last(),
    )


class TestNothingKept(SidesCase):
    def test_what_is_handed_in_stays_as_it_was(self):
        directions = list(SOME)
        all_told(Sides(directions))
        self.assertEqual(directions, [(3, 0, 2), (1, 1, 1), (-2, 5, 3)])

    def test_what_is_handed_in_may_be_changed_later(self):
        directions = list(SOME)
        sides = Sides(directions)
        wanted = all_told(Sides(list(SOME)))
        directions[0] = (9, 0, 5)
        self.assertEqual(all_told(sides), wanted)
        directions.append((-7, 1, 2))
        self.assertEqual(all_told(sides), wanted)
        directions.clear()
        self.assertEqual(all_told(sides), wanted)

    def test_what_is_told_may_be_changed(self):
        sides = Sides(list(SOME))
        wanted = all_told(Sides(list(SOME)))
        for tell in (sides.pairs, sides.first, sides.last):
            told = tell()
            told.reverse()
            told.append(99)
            self.assertEqual(all_told(sides), wanted)
            told.clear()
            self.assertEqual(all_told(sides), wanted)

    def test_each_list_told_is_a_new_one(self):
        sides = Sides(list(SOME))
        for tell in (sides.pairs, sides.first, sides.last):
            self.assertIsNot(tell(), tell())

    def test_sides_know_nothing_of_one_another(self):
        one = Sides(SOME)
        wanted = all_told(one)
        Sides(SIX)
        with self.assertRaises(NoSides):
            Sides([])
        self.assertEqual(all_told(one), wanted)


if __name__ == "__main__":
    unittest.main()
