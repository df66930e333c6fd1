import unittest

import samples
from slantfloor.desk import Desk
from slantfloor.errors import NoFlip, NoHeights, NoHold, NoRow, NoSides, NoText, SlantError, TooMany
from slantfloor.flips import flippable, flipped, low
from slantfloor.floors import first_row, laid
from slantfloor.heights import heights
from slantfloor.stiff import fewest, needless
from slantfloor.threes import threes, up
from slantfloor.ways import unlike

HEXAGON = "sides 1,0*1 1,1*1 0,1*1"
# Bands 0 1, 2, 3 4.
THREE = "sides 3,0*2 1,1*1 -2,5*2"
THREE_ROW = "lay 1 0 2 1 0 3 2 1"


def said_sides(directions):
    return "sides " + " ".join(f"{x},{y}*{many}" for x, y, many in directions)


def spaced(numbers):
    return " ".join(str(number) for number in numbers)


def dotted(some):
    return " ".join(".".join(str(band) for band in three) for three in some) or "-"


def desk_with(*rows):
    desk = Desk()
    for row in rows:
        desk.say(row)
    return desk


def seen(desk):
    """All that can be asked of a desk without changing it."""
    told = []
    rows = ["row", "ups", "flips", "heights", "stiff", "count 30"]
    rows += [f"needless {number}" for number in range(62)]
    for row in rows:
        try:
            told.append(desk.say(row))
        except SlantError as refusal:
            told.append(refusal.__class__.__name__)
    return told


class DeskCase(unittest.TestCase):
    def refused(self, desk, row, error):
        before = seen(desk)
        with self.assertRaises(error) as taken:
            desk.say(row)
        self.assertEqual(seen(desk), before)
        return taken.exception


class TestAtFirst(DeskCase):
    def test_sides_floor_and_holds(self):
        desk = Desk()
        self.assertEqual(desk.say("row"), "0")
        self.assertEqual(desk.say("ups"), "-")
        self.assertEqual(desk.say("flips"), "-")
        self.assertEqual(desk.say("count 1"), "1")
        self.assertRegex(desk.say("stiff"), r"\Afree [01]\Z")
        self.refused(desk, "heights", NoHeights)
        self.refused(desk, "loosen 0", NoHold)
        self.assertEqual(desk.say("brace 0 1"), "1")
        self.assertEqual(desk.say("stiff"), "stiff")

    def test_desks_know_nothing_of_one_another(self):
        one, other = Desk(), Desk()
        before = seen(other)
        one.say("brace 0 1")
        one.say(THREE)
        one.say("brace 0 2")
        self.assertEqual(seen(other), before)
        self.assertEqual(seen(Desk()), before)


class TestSides(DeskCase):
    def test_new_sides_the_low_floor_no_holds(self):
        desk = desk_with("brace 0 1")
        for directions in samples.ALL:
            self.assertEqual(desk.say(said_sides(directions)), "ok")
            sides = samples.sides_of(directions)
            self.assertEqual(desk.say("row"), spaced(first_row(sides, low(sides))))
            self.assertEqual(desk.say("ups"), "-")
            self.refused(desk, "loosen 0", NoHold)
            self.assertEqual(desk.say(f"brace 0 {sides.many() - 1}"), "1")

    def test_the_same_sides_once_more(self):
        desk = desk_with(HEXAGON, "flip 0 1 2", "brace 0 1")
        self.assertEqual(desk.say("ups"), "0.1.2")
        self.assertEqual(desk.say(HEXAGON), "ok")
        self.assertEqual(desk.say("ups"), "-")
        self.refused(desk, "needless 0", NoHold)

    def test_twelve_figures(self):
        desk = Desk()
        self.assertEqual(desk.say("sides 999999999999,0*6 -999999999999,999999999999*6"), "ok")
        self.assertEqual(desk.say("count 1"), "1")

    def test_refused_as_sides_are(self):
        desk = desk_with(THREE, THREE_ROW, "brace 0 2")
        for words in (
            "1,0*1", "0,1*1 1,0*1", "1,0*1 1,0*1", "1,0*0 0,1*1", "1,0*1 0,1*-1", "1,0*12 0,1*1", "1,0*1 0,0*1",
            "1,0*1 -1,0*1", "1,-1*1 0,1*1", "1,0*999999999999 0,1*1",
            "3,1*1 2,1*1 1,1*1 0,1*1 -1,1*1 -2,1*1 -3,1*1",
        ):
            with self.subTest(words=words):
                self.refused(desk, "sides " + words, NoSides)

    def test_no_written_number(self):
        desk = desk_with(THREE, THREE_ROW, "brace 0 2")
        for words in (
            "", "1", "1,0", "1,0*", "1,*1", ",0*1", "1*0,1", "1*0", "*", ",", ",*", "1,0*1,", "1,0*1*1", "1,0,1", "1,0,1*1",
            "1;0*1", "1,0*01", "01,0*1", "1,-0*1", "+1,0*1", "1,0*1 ", " 1,0*1", "1,0*1  0,1*1", "1,0*1 0,1", "1,0*1 x",
            "1000000000000,0*1 0,1*1", "1,0*1 0,1*1 -", "1,0*1 0,1*1x", "(1,0*1) 0,1*1",
            # These would be refused as sides, too.
            "0,1*1 1,0*1 x", "1,0*1 0,1*1000000000000",
        ):
            with self.subTest(words=words):
                self.refused(desk, "sides " + words, NoText)
        self.refused(desk, "sides", NoText)


class TestLay(DeskCase):
    def test_the_floor_of_a_row(self):
        for directions in samples.ALL:
            desk = desk_with(said_sides(directions))
            sides = samples.sides_of(directions)
            for seed in range(3):
                row = samples.some_row(directions, seed)
                floor = laid(sides, row)
                self.assertEqual(desk.say("lay " + spaced(row)), "ok")
                self.assertEqual(desk.say("row"), spaced(first_row(sides, floor)))
                self.assertEqual(desk.say("ups"), dotted(up(sides, floor)))
                self.assertEqual(desk.say("flips"), dotted(flippable(sides, floor)))

    def test_refused_as_rows_are(self):
        desk = desk_with(THREE, THREE_ROW, "more 0 2")
        for row, step in (
            ("lay", 0), ("lay 0", 0), ("lay 1 0 2", 3), ("lay 1 1", 1), (THREE_ROW + " 0", 8), ("lay -1", 0),
            ("lay 999999999999", 0), ("lay 1 -999999999999", 1), ("lay 4", 0), ("lay" + " 1" * 990, 1),
        ):
            with self.subTest(row=row):
                self.assertEqual(self.refused(desk, row, NoRow).step, step)

    def test_no_written_number(self):
        desk = desk_with(THREE, THREE_ROW)
        for row in ("lay ", "lay  1", "lay 1  0", "lay x", "lay 1 0 2 1 0 3 2 1 ", "lay 01", "lay +1", "lay -0",
                    "lay 1,0", "lay 9 9 x", "lay 1000000000000", "Lay 1", " lay 1"):
            with self.subTest(row=row):
                self.refused(desk, row, NoText)

    def test_holds_stay(self):
        desk = desk_with(THREE, "more 0 2", "brace 1 3", THREE_ROW)
        self.assertEqual(desk.say("loosen 1"), "1")
        self.assertEqual(desk.say("low"), "ok")
        self.assertEqual(desk.say("loosen 0"), "0")


class TestLowAndFlip(DeskCase):
    def test_low(self):
        desk = desk_with(THREE, THREE_ROW)
        self.assertNotEqual(desk.say("ups"), "-")
        self.assertEqual(desk.say("low"), "ok")
        self.assertEqual(desk.say("ups"), "-")

    def test_up_and_down(self):
        desk = desk_with(HEXAGON)
        self.assertEqual(desk.say("flip 0 1 2"), "up")
        self.assertEqual(desk.say("row"), "0 1 0")
        self.assertEqual(desk.say("ups"), "0.1.2")
        self.assertEqual(desk.say("flip 0 1 2"), "down")
        self.assertEqual(desk.say("row"), "1 0 1")
        self.assertEqual(desk.say("ups"), "-")

    def test_large_floors(self):
        desk = desk_with(said_sides(samples.TWELVE_SIX))
        sides = samples.sides_of(samples.TWELVE_SIX)
        floor = low(sides)
        for turn in range(40):
            three = flippable(sides, floor)[turn % 3]
            floor = flipped(sides, floor, three)
            self.assertEqual(desk.say("flip " + spaced(three)), "up" if three in up(sides, floor) else "down")
            self.assertEqual(desk.say("ups"), dotted(up(sides, floor)))
            self.assertEqual(desk.say("flips"), dotted(flippable(sides, floor)))
            self.assertEqual(desk.say("row"), spaced(first_row(sides, floor)))

    def test_refused_flips(self):
        desk = desk_with(THREE, THREE_ROW, "less 1 4")
        sides = samples.sides_of(samples.THREE)
        floor = laid(sides, [1, 0, 2, 1, 0, 3, 2, 1])
        for three in threes(sides):
            if three not in flippable(sides, floor):
                self.refused(desk, "flip " + spaced(three), NoFlip)
        for words in ("0 1 2", "3 2 0", "0 0 0", "-1 2 3", "0 2 5", "0 2 999999999999", "-999999999999 2 3"):
            self.refused(desk, "flip " + words, NoFlip)

    def test_no_text(self):
        desk = desk_with(HEXAGON)
        for row in ("flip", "flip 0", "flip 0 1", "flip 0 1 2 3", "flip 0 1 x", "flip 0.1.2", "flip 0 1 2 ",
                    "flip  0 1 2", "flip 7 7 07", "low 1", "low ", " low", "LOW"):
            with self.subTest(row=row):
                self.refused(desk, row, NoText)


class TestUnlike(DeskCase):
    def test_some(self):
        desk = desk_with(HEXAGON)
        self.assertEqual(desk.say("unlike 0 1 0"), "0.1.2")
        self.assertEqual(desk.say("unlike 1 0 1"), "-")
        self.assertEqual(desk.say("row"), "1 0 1")

    def test_large_floors(self):
        for directions in samples.ALL:
            desk = desk_with(said_sides(directions))
            sides = samples.sides_of(directions)
            one, other = samples.some_row(directions, 5), samples.some_row(directions, 6)
            desk.say("lay " + spaced(one))
            wanted = dotted(unlike(sides, laid(sides, one), laid(sides, other)))
            self.assertEqual(desk.say("unlike " + spaced(other)), wanted)
            self.assertEqual(desk.say("row"), spaced(first_row(sides, laid(sides, one))))

    def test_refused(self):
        desk = desk_with(THREE, THREE_ROW)
        for row, step in (("unlike", 0), ("unlike 0", 0), ("unlike 1 0 2", 3), ("unlike 1 1", 1), ("unlike -1", 0)):
            self.assertEqual(self.refused(desk, row, NoRow).step, step)
        for row in ("unlike ", "unlike x", "unlike 9 9 x", "unlike 1  0"):
            self.refused(desk, row, NoText)


class TestHeights(DeskCase):
    def test_some(self):
        desk = desk_with("sides 1,0*2 1,1*3 0,1*2")
        self.assertEqual(desk.say("heights"), "0 0/0 0")
        desk.say("flip 1 2 6")
        self.assertEqual(desk.say("heights"), "0 0/0 1")
        desk.say("flip 0 2 6")
        desk.say("flip 1 2 5")
        desk.say("flip 1 3 6")
        self.assertEqual(desk.say("heights"), "0 1/1 2")
        self.assertEqual(desk_with(HEXAGON, "flip 0 1 2").say("heights"), "1")
        self.assertEqual(desk_with("sides 1,0*3 1,1*1 0,1*1").say("heights"), "0/0/0")

    def test_large_floors(self):
        desk = desk_with(said_sides(samples.TWELVE_THREE))
        sides = samples.sides_of(samples.TWELVE_THREE)
        row = samples.some_row(samples.TWELVE_THREE, 9)
        desk.say("lay " + spaced(row))
        self.assertEqual(desk.say("heights"), "/".join(spaced(line) for line in heights(sides, laid(sides, row))))

    def test_refused(self):
        for directions in samples.ALL:
            if len(directions) != 3:
                self.refused(desk_with(said_sides(directions)), "heights", NoHeights)
        self.refused(desk_with(HEXAGON), "heights 1", NoText)
        self.refused(Desk(), "heights 1", NoText)


class TestCount(DeskCase):
    def test_some(self):
        self.assertEqual(desk_with(HEXAGON).say("count 2"), "2")
        self.assertEqual(desk_with(THREE).say("count 300"), "6")
        self.assertEqual(desk_with(THREE).say("count 6"), "6")
        self.assertEqual(desk_with(said_sides(samples.FIVE)).say("count 62"), "62")

    def test_too_many(self):
        self.refused(desk_with(HEXAGON), "count 1", TooMany)
        self.refused(Desk(), "count 0", TooMany)
        self.refused(desk_with(THREE, THREE_ROW), "count 5", TooMany)
        self.refused(desk_with(said_sides(samples.TWELVE_SIX)), "count 300", TooMany)

    def test_no_text(self):
        for row in ("count 301", "count -1", "count 999999999999", "count -999999999999", "count", "count ", "count x",
                    "count 1 1", "count 01", "count 1000000000000"):
            self.refused(desk_with(HEXAGON), row, NoText)
        # More floors than any most, and still no text is told ahead.
        self.refused(desk_with(said_sides(samples.TWELVE_SIX)), "count 301", NoText)


class TestHolds(DeskCase):
    def test_one_more(self):
        desk = desk_with(THREE)
        self.assertEqual(desk.say("brace 0 2"), "1")
        self.assertEqual(desk.say("more 1 4"), "2")
        self.assertEqual(desk.say("less 1 4"), "3")
        self.assertEqual(desk.say("less 1 4"), "4")

    def test_sixty(self):
        desk = desk_with(THREE)
        for number in range(60):
            self.assertEqual(desk.say("more 0 2"), str(number + 1))
        self.assertEqual(desk.say("loosen 59"), "59")

    def test_loosen(self):
        desk = desk_with("brace 0 1", "more 0 1", "less 0 1")
        self.assertEqual([desk.say(f"needless {number}") for number in range(3)], ["yes", "yes", "yes"])
        self.assertEqual(desk.say("loosen 0"), "2")
        # Those behind stand one place lower.
        self.assertEqual([desk.say(f"needless {number}") for number in range(2)], ["no", "no"])
        self.assertEqual(desk.say("stiff"), "stiff")
        self.assertEqual(desk.say("loosen 1"), "1")
        self.assertEqual(desk.say("stiff"), "free 1")
        self.assertEqual(desk.say("loosen 0"), "0")
        self.refused(desk, "loosen 0", NoHold)

    def test_refused_holds(self):
        desk = desk_with(THREE, "brace 0 2")
        for words in ("2 0", "0 1", "3 4", "0 0", "0 5", "-1 2", "0 -1", "-2 -1", "0 999999999999", "5 6"):
            for word in ("brace", "more", "less"):
                self.refused(desk, word + " " + words, NoHold)

    def test_refused_places(self):
        desk = desk_with(THREE, "brace 0 2", "more 1 4")
        for number in ("2", "3", "-1", "-2", "999999999999", "-999999999999"):
            self.refused(desk, "loosen " + number, NoHold)
            self.refused(desk, "needless " + number, NoHold)
        for row in ("needless 0", "loosen 0"):
            self.refused(Desk(), row, NoHold)

    def test_no_text(self):
        desk = desk_with(THREE, "brace 0 2")
        for row in (
            "brace", "brace 0", "brace 0 2 3", "brace 0 x", "brace  0 2", "brace 0 2 ", "brace 0,2", "brace 9 09",
            "more", "more 0", "more 0 2 3", "more 0 2 brace", "less", "less 0", "less 0 2 3", "less x 2", "cable 0 2",
            "Brace 0 2", "loosen", "loosen x", "loosen 0 0", "loosen ", "loosen -0", "needless", "needless x",
            "needless 0 0", "needless 00", "stiff 0", "stiff ", "hold 0 2",
        ):
            with self.subTest(row=row):
                self.refused(desk, row, NoText)


class TestStiff(DeskCase):
    def test_free(self):
        for directions in samples.ALL:
            desk = desk_with(said_sides(directions))
            words = desk.say("stiff").split(" ")
            self.assertEqual(words[0], "free")
            bands = [int(word) for word in words[1:]]
            self.assertEqual(bands, sorted(set(bands)))
            self.assertTrue(0 < len(bands) < len(samples.kinds_of(directions)))

    def test_stiff_by_the_fewest_braces(self):
        for directions in samples.ALL:
            desk = desk_with(said_sides(directions))
            for a, b, word in fewest(samples.sides_of(directions)):
                self.assertEqual(desk.say("stiff")[:5], "free ")
                desk.say(f"brace {a} {b}")
            self.assertEqual(desk.say("stiff"), "stiff")

    def test_free_set_of_several_bands(self):
        desk = desk_with("sides 1,0*1 1,1*1 0,1*1", "brace 0 1", "more 0 2", "less 0 2")
        self.assertEqual(desk.say("stiff"), "stiff")
        desk = desk_with("sides 1,0*1 1,1*1 0,1*1", "brace 0 1", "less 0 2")
        self.assertEqual(desk.say("stiff"), "free 0 1")

    def test_needless(self):
        desk = desk_with(THREE)
        holds = [(0, 2, "more"), (2, 3, "more"), (0, 3, "more"), (0, 3, "brace"), (1, 4, "less")]
        for a, b, word in holds:
            desk.say(f"{word} {a} {b}")
        sides = samples.sides_of(samples.THREE)
        wanted = ["yes" if needless(sides, holds, number) else "no" for number in range(5)]
        self.assertEqual([desk.say(f"needless {number}") for number in range(5)], wanted)
        self.assertEqual(set(wanted), {"yes", "no"})


class TestNoText(DeskCase):
    def test_rows_that_are_none(self):
        desk = desk_with(THREE, THREE_ROW, "brace 0 2")
        for row in (
            "", " ", "  ", "0", "-", "ok", "x", "help", "row 1", "row ", " row", "Row", "rows", "ups 0", "ups ", "UPS",
            "flips 0", "flips ", "flips  ", "heights ", "side 1,0*1 0,1*1", "sides,1,0*1", "lay,1", "up", "free", "x 1",
            "x 1 2", "x 1 2 3", "x 1 2 3 4", "~", "row~", "row;ups", "low low", "row row", "ways 1", "way", "groups",
            "x" * 2000, " " * 2000, "1 " * 1000,
        ):
            with self.subTest(row=row):
                self.refused(desk, row, NoText)


class TestChangesNothing(DeskCase):
    def test_asking_changes_nothing(self):
        desk = desk_with(THREE, THREE_ROW, "brace 0 2", "more 1 4")
        before = seen(desk)
        for row in ("row", "ups", "flips", "heights", "stiff", "count 6", "needless 1", "unlike 2 1 0 3 2 1 2 3"):
            try:
                desk.say(row)
            except NoRow:
                pass
            self.assertEqual(seen(desk), before)


if __name__ == "__main__":
    unittest.main()
