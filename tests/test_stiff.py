import copy
import itertools
import unittest

import samples
from slantfloor.errors import NoHold
from slantfloor.holds import pulls
from slantfloor.stiff import fewest, free, groups, needless, there_and_back

# Bands 0 1, 2, 3 4 of three kinds.
SIDES = samples.sides_of(samples.THREE)
HEXAGON = samples.sides_of(samples.THREE_SINGLE)
WORDS = ("brace", "more", "less")
STIFF_BRACES = [(0, 2, "brace"), (0, 3, "brace"), (0, 4, "brace"), (1, 4, "brace")]
# 0 pulls 2, 2 pulls 3, 3 pulls 1, 1 pulls 4, 4 pulls 0.
STIFF_RING = [(0, 2, "more"), (2, 3, "more"), (1, 3, "less"), (1, 4, "more"), (0, 4, "less")]


def led_to(arrows, band):
    found = {band}
    while True:
        more = {y for x, y in arrows if x in found} - found
        if not more:
            return found
        found |= more


def every_free_set(many, arrows):
    for count in range(1, many):
        for some in itertools.combinations(range(many), count):
            if all(y in some for x, y in arrows if x in some):
                yield list(some)


def samples_of_holds(directions):
    """Many lists of holds, of all words, from none to some more than there are bands."""
    pairs = samples.pairs_of(directions)
    for seed in range(60):
        holds = []
        for k in range(seed % 20):
            a, b = pairs[(seed * 7 + k * (5 + seed % 3)) % len(pairs)]
            holds.append((a, b, WORDS[(seed + k * k) % 3]))
        yield holds


class StiffCase(unittest.TestCase):
    def check_stiff(self, sides, holds):
        arrows = pulls(sides, holds)
        told = there_and_back(sides, holds)
        self.assertIsInstance(told, tuple)
        there, back = told
        self.assertEqual((len(there), len(back)), (sides.many(), sides.many()))
        self.assertIsNone(there[0])
        self.assertIsNone(back[0])
        for band in range(1, sides.many()):
            self.assertIn((there[band], band), arrows)
            self.assertIn((band, back[band]), arrows)
            self.comes_to_zero(there, band)
            self.comes_to_zero(back, band)
        self.assertIsNone(free(sides, holds))

    def comes_to_zero(self, ways, band):
        for turn in range(len(ways)):
            if band == 0:
                return
            band = ways[band]
        self.fail("the way goes round")

    def check_free(self, sides, holds):
        self.assertIsNone(there_and_back(sides, holds))
        some = free(sides, holds)
        self.assertIsInstance(some, list)
        self.assertEqual(some, sorted(set(some)))
        self.assertTrue(0 < len(some) < sides.many())
        self.assertTrue(set(some) <= set(range(sides.many())))
        for x, y in pulls(sides, holds):
            if x in some:
                self.assertIn(y, some)

    def check(self, sides, holds):
        before = list(holds)
        if list(every_free_set(sides.many(), pulls(sides, holds))):
            self.check_free(sides, holds)
            self.assertGreater(len(groups(sides, holds)), 1)
        else:
            self.check_stiff(sides, holds)
            self.assertEqual(groups(sides, holds), [sides.first()])
        self.assertEqual(holds, before)


class TestStiff(StiffCase):
    def test_no_holds(self):
        for directions in samples.ALL:
            self.check_free(samples.sides_of(directions), [])

    def test_braces_alone(self):
        self.check_stiff(SIDES, STIFF_BRACES)
        for place in range(len(STIFF_BRACES)):
            self.check_free(SIDES, STIFF_BRACES[:place] + STIFF_BRACES[place + 1:])

    def test_more_and_less_alone(self):
        self.check_stiff(SIDES, STIFF_RING)
        for place in range(len(STIFF_RING)):
            self.check_free(SIDES, STIFF_RING[:place] + STIFF_RING[place + 1:])

    def test_more_alone_and_less_alone_never_do(self):
        for word in ("more", "less"):
            for directions in samples.ALL:
                holds = [(a, b, word) for a, b in samples.pairs_of(directions)]
                self.check_free(samples.sides_of(directions), holds)

    def test_one_tile(self):
        sides = samples.sides_of(samples.ONE_TILE)
        self.assertEqual(there_and_back(sides, [(0, 1, "brace")]), ([None, 0], [None, 0]))
        self.assertIsNone(free(sides, [(0, 1, "brace")]))
        self.check_stiff(sides, [(0, 1, "more"), (0, 1, "less")])
        self.assertEqual(free(sides, [(0, 1, "more")]), [1])
        self.assertEqual(free(sides, [(0, 1, "less")]), [0])
        self.assertIsNone(there_and_back(sides, [(0, 1, "more")]))

    def test_all_braces(self):
        for directions in samples.ALL:
            self.check_stiff(samples.sides_of(directions), [(a, b, "brace") for a, b in samples.pairs_of(directions)])

    def test_all_holds_of_a_hexagon(self):
        choices = [(a, b, word) for a, b in samples.pairs_of(samples.THREE_SINGLE) for word in WORDS]
        for count in range(5):
            for holds in itertools.combinations(choices, count):
                self.check(HEXAGON, list(holds))

    def test_many_holds(self):
        for directions in (samples.TWO, samples.THREE, samples.FOUR, samples.FIVE, samples.SIX):
            for holds in samples_of_holds(directions):
                self.check(samples.sides_of(directions), holds)

    def test_twelve_bands(self):
        for directions in samples.LARGE:
            sides = samples.sides_of(directions)
            pairs = samples.pairs_of(directions)
            for step in (1, 2, 3, 5):
                holds = [(a, b, WORDS[k % 3]) for k, (a, b) in enumerate(pairs[::step])]
                self.check(sides, holds)


class TestGroups(StiffCase):
    def test_no_holds(self):
        self.assertEqual(groups(SIDES, []), [[0], [1], [2], [3], [4]])

    def test_some(self):
        self.assertEqual(groups(SIDES, [(1, 3, "brace")]), [[0], [1, 3], [2], [4]])
        self.assertEqual(groups(SIDES, [(0, 4, "brace"), (1, 2, "brace")]), [[0, 4], [1, 2], [3]])
        self.assertEqual(groups(SIDES, [(0, 2, "more")]), [[0], [1], [2], [3], [4]])
        self.assertEqual(groups(SIDES, [(0, 2, "more"), (0, 2, "less")]), [[0, 2], [1], [3], [4]])
        self.assertEqual(groups(SIDES, [(0, 2, "more"), (2, 4, "more"), (0, 4, "less")]), [[0, 2, 4], [1], [3]])
        self.assertEqual(groups(SIDES, STIFF_RING), [[0, 1, 2, 3, 4]])
        # Two groups, of which one pulls the other.
        self.assertEqual(groups(SIDES, [(0, 3, "brace"), (1, 4, "brace"), (0, 4, "more")]), [[0, 3], [1, 4], [2]])

    def test_led_to_and_leading_back(self):
        for directions in samples.ALL:
            sides = samples.sides_of(directions)
            for holds in itertools.islice(samples_of_holds(directions), 0, 60, 3):
                arrows = pulls(sides, holds)
                far = [led_to(arrows, band) for band in range(sides.many())]
                wanted = {
                    tuple(other for other in range(sides.many()) if other in far[band] and band in far[other])
                    for band in range(sides.many())
                }
                self.assertEqual(groups(sides, holds), [list(group) for group in sorted(wanted)])


class TestFewest(StiffCase):
    def test_for_each_count_of_directions(self):
        for directions in samples.ALL + ([(1, 0, 11), (0, 1, 1)], [(1, 0, 1), (0, 1, 11)], [(1, 0, 3), (0, 1, 1)]):
            sides = samples.sides_of(directions)
            told = fewest(sides)
            self.assertEqual(len(told), sides.many() - 1)
            self.assertEqual({word for a, b, word in told}, {"brace"})
            self.check_stiff(sides, told)
            for place in range(len(told)):
                self.check_free(sides, told[:place] + told[place + 1:])

    def test_may_be_changed(self):
        wanted = fewest(SIDES)
        fewest(SIDES).clear()
        self.assertEqual(fewest(SIDES), wanted)


class TestNeedless(StiffCase):
    def test_one_alone_never(self):
        for word in WORDS:
            self.assertIs(needless(SIDES, [(0, 2, word)], 0), False)

    def test_several_of_one_tile(self):
        self.assertIs(needless(SIDES, [(0, 2, "brace"), (0, 2, "brace")], 0), True)
        self.assertIs(needless(SIDES, [(0, 2, "brace"), (0, 2, "brace")], 1), True)
        holds = [(0, 2, "brace"), (0, 2, "more")]
        self.assertEqual([needless(SIDES, holds, k) for k in range(2)], [False, True])
        holds = [(0, 2, "brace"), (0, 2, "more"), (0, 2, "less")]
        self.assertEqual([needless(SIDES, holds, k) for k in range(3)], [True, True, True])
        holds = [(0, 2, "less"), (0, 2, "more")]
        self.assertEqual([needless(SIDES, holds, k) for k in range(2)], [False, False])

    def test_from_one_band_to_the_next(self):
        holds = [(0, 2, "more"), (2, 3, "more"), (0, 3, "more")]
        self.assertEqual([needless(SIDES, holds, k) for k in range(3)], [False, False, True])
        holds = [(0, 2, "more"), (2, 3, "more"), (0, 3, "less")]
        self.assertEqual([needless(SIDES, holds, k) for k in range(3)], [False, False, False])
        # Only one of the two pulls of the brace is made by the others.
        holds = [(0, 2, "more"), (2, 3, "more"), (0, 3, "brace")]
        self.assertEqual([needless(SIDES, holds, k) for k in range(3)], [False, False, False])
        holds = [(0, 2, "brace"), (2, 3, "brace"), (0, 3, "brace")]
        self.assertEqual([needless(SIDES, holds, k) for k in range(3)], [True, True, True])

    def test_those_of_stiff_lists(self):
        for k in range(len(STIFF_BRACES)):
            self.assertIs(needless(SIDES, STIFF_BRACES, k), False)
        for k in range(len(STIFF_RING)):
            self.assertIs(needless(SIDES, STIFF_RING, k), False)
            self.assertIs(needless(SIDES, STIFF_RING + STIFF_BRACES, k), True)

    def test_many_holds(self):
        for directions in (samples.THREE, samples.FOUR, samples.TWELVE_SIX):
            sides = samples.sides_of(directions)
            for holds in samples_of_holds(directions):
                for number, hold in enumerate(holds):
                    others = pulls(sides, holds[:number] + holds[number + 1:])
                    wanted = all(y in led_to(others, x) for x, y in pulls(sides, [hold]))
                    before = list(holds)
                    self.assertIs(needless(sides, holds, number), wanted)
                    self.assertEqual(holds, before)


class TestRefused(unittest.TestCase):
    def test_what_is_no_hold(self):
        fine = [(0, 2, "brace"), (1, 4, "more")]
        for wrong in ((2, 0, "brace"), (0, 1, "more"), (0, 2, "hold"), (True, 2, "brace"), (0, None, "less"), (),
                      (0, 2), (0, 2, "brace", 1), (0, 5, "brace"), (-1, 2, "less")):
            for place in range(3):
                holds = fine[:place] + [wrong] + fine[place:]
                before = copy.deepcopy(holds)
                for ask in (groups, there_and_back, free):
                    with self.assertRaises(NoHold):
                        ask(SIDES, holds)
                for number in range(3):
                    with self.assertRaises(NoHold):
                        needless(SIDES, holds, number)
                self.assertEqual(holds, before)
        with self.assertRaises(NoHold):
            needless(SIDES, [(2, 0, "brace")], 0)


class TestNothingKept(unittest.TestCase):
    def test_what_is_told_may_be_changed(self):
        holds = list(STIFF_RING)
        there, back = there_and_back(SIDES, holds)
        told = groups(SIDES, holds)
        told[0].append(9)
        there.clear()
        back.append(3)
        self.assertEqual(there_and_back(SIDES, holds)[0][0], None)
        self.assertEqual(len(there_and_back(SIDES, holds)[1]), 5)
        self.assertEqual(groups(SIDES, holds), [[0, 1, 2, 3, 4]])
        some = free(SIDES, [])
        wanted = list(some)
        some.clear()
        self.assertEqual(free(SIDES, []), wanted)
        self.assertEqual(holds, STIFF_RING)

    def test_what_is_handed_in_may_be_changed_later(self):
        holds = list(STIFF_RING)
        told = (there_and_back(SIDES, holds), groups(SIDES, holds))
        wanted = copy.deepcopy(told)
        holds.clear()
        self.assertEqual(told, wanted)


if __name__ == "__main__":
    unittest.main()
