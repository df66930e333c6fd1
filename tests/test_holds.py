import copy
import unittest

import samples
from slantfloor.errors import NoHold, SlantError
from slantfloor.holds import pulls

# Bands 0 1, 2, 3 4 of three kinds.
SIDES = samples.sides_of(samples.THREE)

NO_HOLDS = (
    # Told the other way round.
    (2, 0, "brace"), (4, 1, "more"), (3, 2, "less"),
    # Alike bands, and a band with itself.
    (0, 1, "brace"), (3, 4, "more"), (0, 0, "brace"), (2, 2, "less"),
    # Bands that are not there.
    (0, 5, "brace"), (-1, 2, "brace"), (-5, 2, "more"), (0, -1, "brace"), (-2, -1, "less"), (5, 6, "brace"),
    (0, 999999999999, "less"), (-999999999999, 2, "brace"), (0, 10 ** 299, "more"),
    # Other words.
    (0, 2, ""), (0, 2, "Brace"), (0, 2, "braces"), (0, 2, " more"), (0, 2, "les"), (0, 2, "cable"), (0, 2, "br"),
    (0, 2, "0"), (0, 2, "bracemore"),
    # Parts of another kind.
    (False, 2, "brace"), (True, 2, "brace"), (0, True, "brace"), (None, 2, "brace"), (0, None, "brace"),
    ("0", 2, "brace"), (0, "2", "brace"), (0, 2, None), (0, 2, True), (0, 2, 0), (0, 2, 1), (None, None, None),
    ("brace", 0, 2), ("a", "b", "brace"),
    # Other lengths.
    (), (0,), (0, 2), ("brace",), (0, 2, "brace", "brace"), (0, 2, "brace", None), (0, 2, 3, "brace"),
    (0, 2, "brace") * 10,
)


class HoldCase(unittest.TestCase):
    def refused(self, sides, holds):
        before = copy.deepcopy(holds)
        with self.assertRaises(NoHold) as taken:
            pulls(sides, holds)
        self.assertIsInstance(taken.exception, SlantError)
        self.assertEqual(holds, before)


class TestPulls(HoldCase):
    def test_no_holds(self):
        self.assertEqual(pulls(SIDES, []), [])

    def test_each_word(self):
        self.assertEqual(pulls(SIDES, [(0, 2, "brace")]), [(0, 2), (2, 0)])
        self.assertEqual(pulls(SIDES, [(0, 2, "more")]), [(0, 2)])
        self.assertEqual(pulls(SIDES, [(0, 2, "less")]), [(2, 0)])

    def test_every_pair(self):
        for directions in samples.ALL:
            sides = samples.sides_of(directions)
            bands = range(sides.many())
            for a in bands:
                for b in bands:
                    if (a, b) in samples.pairs_of(directions):
                        self.assertEqual(pulls(sides, [(a, b, "less")]), [(b, a)])
                    else:
                        self.refused(sides, [(a, b, "less")])

    def test_sorted(self):
        holds = [(2, 4, "more"), (1, 3, "brace"), (0, 2, "less"), (0, 3, "more")]
        self.assertEqual(pulls(SIDES, holds), [(0, 3), (1, 3), (2, 0), (2, 4), (3, 1)])

    def test_each_once(self):
        self.assertEqual(pulls(SIDES, [(0, 2, "more"), (0, 2, "more")]), [(0, 2)])
        self.assertEqual(pulls(SIDES, [(0, 2, "more"), (0, 2, "less")]), [(0, 2), (2, 0)])
        self.assertEqual(pulls(SIDES, [(0, 2, "less"), (0, 2, "brace"), (0, 2, "brace")]), [(0, 2), (2, 0)])

    def test_sixty_holds(self):
        sides = samples.sides_of(samples.TWELVE_SIX)
        pairs = samples.pairs_of(samples.TWELVE_SIX)
        self.assertEqual(len(pairs), 60)
        self.assertEqual(
            pulls(sides, [(a, b, "brace") for a, b in pairs]),
            sorted(pairs + [(b, a) for a, b in pairs]),
        )
        self.assertEqual(pulls(SIDES, [(0, 2, "more")] * 60), [(0, 2)])

    def test_kinds(self):
        told = pulls(SIDES, [(0, 2, "brace")])
        self.assertIsInstance(told, list)
        self.assertIsInstance(told[0], tuple)


class TestNoHold(HoldCase):
    def test_alone(self):
        for wrong in NO_HOLDS:
            with self.subTest(wrong=wrong):
                self.refused(SIDES, [wrong])

    def test_first_amid_and_last(self):
        fine = [(0, 2, "brace"), (1, 4, "more")]
        for wrong in NO_HOLDS:
            with self.subTest(wrong=wrong):
                for place in range(3):
                    self.refused(SIDES, fine[:place] + [wrong] + fine[place:])

    def test_the_last_of_sixty(self):
        self.refused(SIDES, [(0, 2, "brace")] * 59 + [(2, 0, "brace")])


class TestNothingKept(HoldCase):
    def test_what_is_handed_in_stays(self):
        holds = [(2, 4, "more"), (0, 2, "less"), (0, 2, "less")]
        told = pulls(SIDES, holds)
        self.assertEqual(holds, [(2, 4, "more"), (0, 2, "less"), (0, 2, "less")])
        holds.clear()
        self.assertEqual(told, [(2, 0), (2, 4)])

    def test_what_is_told_may_be_changed(self):
        holds = [(0, 2, "brace")]
        pulls(SIDES, holds).clear()
        pulls(SIDES, []).append((0, 2))
        self.assertEqual(pulls(SIDES, holds), [(0, 2), (2, 0)])
        self.assertEqual(pulls(SIDES, []), [])


if __name__ == "__main__":
    unittest.main()
