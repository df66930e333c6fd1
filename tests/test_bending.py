import itertools
import math
import unittest
from fractions import Fraction

import samples
from slantfloor.bending import bent, is_turn, turn_for
from slantfloor.errors import NoTurn, SlantError
from slantfloor.floors import corner
from slantfloor.stiff import free

LARGEST = 999999999999
HEXAGON = samples.sides_of(samples.THREE_SINGLE)
UP = [(0, 1, ()), (0, 2, (1,)), (1, 2, ())]

TURNS = (
    (3, 4, 5), (4, 3, 5), (-3, 4, 5), (3, -4, 5), (-3, -4, 5), (1, 0, 1), (-1, 0, 1), (0, 1, 1), (0, -1, 1),
    (5, 12, 13), (15, 8, 17), (10 ** 100 - 1, 2 * 10 ** 50, 10 ** 100 + 1),
)
NO_TURNS = (
    # A common part.
    (6, 8, 10), (9, 12, 15), (2, 0, 2), (0, -7, 7), (3 * 7, 4 * 7, 5 * 7), (3 * 10 ** 50, 4 * 10 ** 50, 5 * 10 ** 50),
    # The last number 0 or below.
    (0, 0, 0), (3, 4, -5), (1, 0, -1), (0, 1, -1), (1, 0, 0), (-1, 0, -1),
    # Squares that don't come out.
    (1, 1, 1), (1, 1, 2), (3, 4, 6), (4, 5, 3), (5, 4, 3), (0, 0, 1), (1, 2, 3), (10 ** 100, 2 * 10 ** 50, 10 ** 100 + 1),
    # Parts of another kind.
    (True, 0, 1), (1, False, 1), (1, 0, True), (None, 4, 5), (3, None, 5), (3, 4, None), ("3", 4, 5), (3, "4", 5),
    (3, 4, "5"), (None, None, None), ("", "", ""), (False, True, True),
    # Other lengths.
    (), (1,), (1, 1), (5,), (3, 4), (3, 4, 5, 1), (3, 4, 5, None), (3, 4, 5, 0), (3, 4, 5, 3, 4, 5),
)
# Each next one is as close to the one ahead as may be: x1 y2 - x2 y1 is 1.
CLOSE = [(LARGEST - 1, LARGEST - 2, 1), (LARGEST, LARGEST - 1, 1)]
CLOSE_SIX = [
    (LARGEST, 0, 2), (LARGEST, 1, 2), (LARGEST - 1, 1, 2), (-LARGEST + 1, 2, 2), (-LARGEST, 2, 2), (-LARGEST, 1, 2),
]


def some_sets(many):
    for number in range(1, 2 ** many - 1, max(1, 2 ** many // 100)):
        yield [band for band in range(many) if number >> band & 1]


def turned(vector, turn):
    (x, y), (p, q, r) = vector, turn
    return (Fraction(p * x - q * y, r), Fraction(q * x + p * y, r))


def vectors_then(directions, some, turn):
    return [
        turned(vector, turn) if band in some else (Fraction(vector[0]), Fraction(vector[1]))
        for band, vector in enumerate(samples.vectors_of(directions))
    ]


def span(one, other):
    return one[0] * other[1] - other[0] * one[1]


class TestIsTurn(unittest.TestCase):
    def test_turns(self):
        for turn in TURNS:
            with self.subTest(turn=turn):
                self.assertIs(is_turn(turn), True)

    def test_what_is_none(self):
        for thing in NO_TURNS:
            with self.subTest(thing=thing):
                self.assertIs(is_turn(thing), False)

    def test_all_small_ones(self):
        for p, q, r in itertools.product(range(-26, 27), range(-26, 27), range(-3, 27)):
            wanted = r >= 1 and p * p + q * q == r * r and math.gcd(p, q, r) == 1
            self.assertIs(is_turn((p, q, r)), wanted)


class TestTurnFor(unittest.TestCase):
    def check(self, directions, some):
        sides = samples.sides_of(directions)
        before = list(some)
        turn = turn_for(sides, some)
        self.assertEqual(some, before)
        self.assertIsInstance(turn, tuple)
        self.assertIs(is_turn(turn), True)
        self.assertGreater(turn[0], 0)
        self.assertGreater(turn[1], 0)
        self.assertLess(max(turn), 10 ** 300)
        vectors = vectors_then(directions, some, turn)
        for a, b in samples.pairs_of(directions):
            self.assertGreater(span(vectors[a], vectors[b]), 0)

    def test_some(self):
        for directions in samples.ALL:
            for some in some_sets(len(samples.kinds_of(directions))):
                self.check(directions, some)

    def test_one_band_and_all_but_one(self):
        for directions in samples.ALL:
            bands = range(len(samples.kinds_of(directions)))
            for band in bands:
                self.check(directions, [band])
                self.check(directions, [other for other in bands if other != band])

    def test_directions_as_close_as_may_be(self):
        self.check(CLOSE, [0])
        self.check(CLOSE, [1])
        for some in some_sets(12):
            self.check(CLOSE_SIX, some)

    def test_directions_that_lie_nearly_straight(self):
        for directions in ([(LARGEST, 0, 1), (-LARGEST, 1, 1)], [(LARGEST, 1, 1), (-LARGEST + 1, 1, 1)],
                           [(LARGEST, 1, 1), (1, LARGEST, 1), (-LARGEST, 1, 1)]):
            for some in some_sets(len(directions)):
                self.check(directions, some)

    def test_right_angles(self):
        self.check(samples.ONE_TILE, [0])
        self.check(samples.ONE_TILE, [1])


class TestBent(unittest.TestCase):
    def corners(self, floor):
        found = set()
        for a, b, below in floor:
            for more in ((), (a,), (b,), (a, b)):
                found.add(tuple(sorted(below + more)))
        return sorted(found)

    def check(self, directions, floor, some, turn):
        sides = samples.sides_of(directions)
        told = bent(sides, floor, some, turn)
        vectors = vectors_then(directions, some, turn)
        self.assertEqual([below for below, x, y, w in told], self.corners(floor))
        for below, x, y, w in told:
            self.assertGreaterEqual(w, 1)
            self.assertEqual(math.gcd(x, y, w), 1)
            self.assertEqual(Fraction(x, w), sum(vectors[band][0] for band in below))
            self.assertEqual(Fraction(y, w), sum(vectors[band][1] for band in below))
        return told

    def test_hexagon(self):
        self.assertEqual(
            bent(HEXAGON, UP, [0], (3, 4, 5)),
            [
                ((), 0, 0, 1), ((0,), 3, 4, 5), ((0, 1), 8, 9, 5), ((0, 1, 2), 8, 14, 5),
                ((1,), 1, 1, 1), ((1, 2), 1, 2, 1), ((2,), 0, 1, 1),
            ],
        )

    def test_every_corner_once(self):
        told = bent(HEXAGON, UP, [0], (3, 4, 5))
        self.assertEqual(len(told), 7)
        # With twelve bands there are as many corners as edges less tiles and one more.
        sides = samples.sides_of(samples.TWELVE_SIX)
        floor = samples.tiles_by_hand(samples.TWELVE_SIX, samples.some_row(samples.TWELVE_SIX, 1))
        self.assertEqual(len(bent(sides, floor, [1], (3, 4, 5))), 60 + 12 + 1)

    def test_every_turn(self):
        for directions in (samples.ONE_TILE, samples.TWO, samples.THREE, samples.FOUR, samples.TWELVE_SIX):
            floor = samples.tiles_by_hand(directions, samples.some_row(directions, 3))
            many = len(samples.kinds_of(directions))
            for turn in TURNS:
                for some in ([], [0], [many - 1], list(range(0, many, 2)), list(range(many))):
                    self.check(directions, floor, some, turn)

    def test_by_no_band(self):
        for directions in samples.ALL:
            sides = samples.sides_of(directions)
            floor = samples.tiles_by_hand(directions, samples.some_row(directions, 2))
            for turn in TURNS:
                wanted = [(below,) + corner(sides, below) + (1,) for below in self.corners(floor)]
                self.assertEqual(bent(sides, floor, [], turn), wanted)

    def test_by_all_bands(self):
        self.assertEqual(
            bent(HEXAGON, UP, [0, 1, 2], (0, 1, 1)),
            [
                ((), 0, 0, 1), ((0,), 0, 1, 1), ((0, 1), -1, 2, 1), ((0, 1, 2), -2, 2, 1),
                ((1,), -1, 1, 1), ((1, 2), -2, 1, 1), ((2,), -1, 0, 1),
            ],
        )

    def test_by_a_turn_by_which_tiles_turn_over(self):
        told = self.check(samples.THREE_SINGLE, UP, [0], (-3, 4, 5))
        self.assertEqual(told[1], ((0,), -3, 4, 5))
        vectors = vectors_then(samples.THREE_SINGLE, [0], (-3, 4, 5))
        self.assertLess(span(vectors[0], vectors[2]), 0)
        self.check(samples.THREE_SINGLE, UP, [1], (-1, 0, 1))

    def test_common_parts_are_taken_out(self):
        sides = samples.sides_of([(5, 0, 1), (0, 10, 1)])
        self.assertEqual(
            bent(sides, [(0, 1, ())], [0], (3, 4, 5)),
            [((), 0, 0, 1), ((0,), 3, 4, 1), ((0, 1), 3, 14, 1), ((1,), 0, 10, 1)],
        )
        sides = samples.sides_of([(13, 0, 1), (0, 1, 1)])
        self.assertEqual(bent(sides, [(0, 1, ())], [0, 1], (5, 12, 13))[1:3], [((0,), 5, 12, 1), ((0, 1), 53, 161, 13)])

    def test_twelve_figures(self):
        floor = [(0, 1, ())]
        self.check(CLOSE, floor, [0], turn_for(samples.sides_of(CLOSE), [0]))
        self.check(CLOSE, floor, [1], turn_for(samples.sides_of(CLOSE), [1]))

    def test_edges_keep_their_lengths(self):
        for directions in (samples.THREE, samples.TWELVE_FOUR):
            sides = samples.sides_of(directions)
            floor = samples.tiles_by_hand(directions, samples.some_row(directions, 7))
            points = {
                below: (Fraction(x, w), Fraction(y, w))
                for below, x, y, w in bent(sides, floor, [1, 3], (-5, 12, 13))
            }
            for a, b, below in floor:
                for band, low in ((a, below), (b, below), (a, below + (b,)), (b, below + (a,))):
                    low = tuple(sorted(low))
                    x1, y1 = points[low]
                    x2, y2 = points[tuple(sorted(low + (band,)))]
                    x, y = sides.vector(band)
                    self.assertEqual((x2 - x1) ** 2 + (y2 - y1) ** 2, x * x + y * y)

    def test_what_is_no_turn(self):
        for wrong in NO_TURNS:
            for some in ([], [0], [0, 1, 2]):
                with self.subTest(wrong=wrong, some=some):
                    with self.assertRaises(NoTurn) as taken:
                        bent(HEXAGON, UP, some, wrong)
                    self.assertIsInstance(taken.exception, SlantError)

    def test_nothing_kept(self):
        floor, some = list(UP), [0]
        told = bent(HEXAGON, floor, some, (3, 4, 5))
        wanted = list(told)
        self.assertEqual((floor, some), (UP, [0]))
        floor.clear()
        some.append(2)
        self.assertEqual(told, wanted)
        told.clear()
        self.assertEqual(bent(HEXAGON, UP, [0], (3, 4, 5)), wanted)


class TestBentAsHoldsLet(unittest.TestCase):
    def check(self, directions, holds):
        sides = samples.sides_of(directions)
        some = free(sides, holds)
        vectors = samples.vectors_of(directions)
        then = vectors_then(directions, some, turn_for(sides, some))
        changed = 0
        for a, b in samples.pairs_of(directions):
            words = [word for one, other, word in holds if (one, other) == (a, b)]
            grown = self.grown(vectors[a], vectors[b], then[a], then[b])
            changed += grown != 0
            for word in words:
                self.assertTrue(grown == 0 or (word == "more" and grown > 0) or (word == "less" and grown < 0))
        self.assertGreater(changed, 0)

    def grown(self, a, b, a_then, b_then):
        """Above 0 where the angle has grown: its cosine, by lengths that stay, has become less."""
        ahead = a[0] * b[0] + a[1] * b[1]
        behind = a_then[0] * b_then[0] + a_then[1] * b_then[1]
        return ahead - behind

    def test_holds_that_are_not_stiff(self):
        for directions in samples.ALL:
            pairs = samples.pairs_of(directions)
            self.check(directions, [])
            for word in ("more", "less"):
                self.check(directions, [(a, b, word) for a, b in pairs])
            self.check(directions, [(a, b, "brace") for a, b in pairs if len(directions) - 1 not in (
                samples.kinds_of(directions)[a], samples.kinds_of(directions)[b]
            )])


if __name__ == "__main__":
    unittest.main()
