"""What the document promises over the whole program: points 2 and 3, and the interface."""

import copy
import importlib
import inspect
import unittest

import samples
from slantfloor.bending import bent, turn_for
from slantfloor.counts import by_ways, product
from slantfloor.far import road
from slantfloor.flips import flipped
from slantfloor.floors import first_row, laid
from slantfloor.listing import all_floors
from slantfloor.rows import is_whole_row
from slantfloor.stiff import free, there_and_back
from slantfloor.threes import floor_by, up
from slantfloor.ways import unlike, way

INTERFACE = {
    "wholes": ("is_whole(thing)",),
    "rows": ("can(sides, path, p)", "exchanged(sides, path, p)", "paths(sides, row)", "is_whole_row(sides, row)"),
    "floors": ("laid(sides, row)", "first_row(sides, tiles)", "is_floor(sides, tiles)", "corner(sides, below)"),
    "far": ("road(sides, one, other)",),
    "threes": ("threes(sides)", "up(sides, floor)", "floor_by(sides, some)"),
    "flips": ("flippable(sides, floor)", "flipped(sides, floor, three)", "low(sides)"),
    "ways": ("unlike(sides, one, other)", "way(sides, one, other)"),
    "heights": ("heights(sides, floor)", "by_heights(sides, table)"),
    "counts": ("product(p, q, r)", "choose(n, k)", "determinant(rows)", "by_ways(p, q, r)"),
    "listing": ("all_floors(sides, most)",),
    "holds": ("pulls(sides, holds)",),
    "stiff": (
        "groups(sides, holds)", "there_and_back(sides, holds)", "free(sides, holds)",
        "needless(sides, holds, number)", "fewest(sides)",
    ),
    "bending": ("is_turn(thing)", "turn_for(sides, some)", "bent(sides, floor, some, turn)"),
    "texts": ("read_number(word)",),
}
METHODS = {
    "sides.Sides": ("many()", "kind(band)", "vector(band)", "pairs()", "first()", "last()"),
    "desk.Desk": ("say(row)",),
}


def found(name):
    module, rest = name.split(".", 1)
    thing = importlib.import_module("slantfloor." + module)
    for part in rest.split("."):
        thing = getattr(thing, part)
    return thing


class TestInterface(unittest.TestCase):
    def test_functions(self):
        for module, rows in INTERFACE.items():
            for row in rows:
                name = row.split("(")[0]
                with self.subTest(row=row):
                    self.assertEqual(name + str(inspect.signature(found(module + "." + name))), row)

    def test_methods(self):
        for kind, rows in METHODS.items():
            for row in rows:
                name = row.split("(")[0]
                told = str(inspect.signature(found(kind + "." + name)))
                with self.subTest(row=row):
                    self.assertEqual(name + told.replace("(self, ", "(").replace("(self)", "()"), row)

    def test_made_of(self):
        self.assertEqual(str(inspect.signature(found("sides.Sides"))), "(directions)")
        self.assertEqual(str(inspect.signature(found("desk.Desk"))), "()")
        self.assertEqual(str(inspect.signature(found("errors.NoRow"))), "(step)")


def calls_on(directions):
    """A call of each function that is handed or tells a list, as (name, things handed in behind the sides)."""
    row = samples.some_row(directions, 3)
    other = samples.shuffled(directions, row, 5)
    floor = samples.tiles_by_hand(directions, row)
    another = samples.tiles_by_hand(directions, samples.some_row(directions, 8))
    path = list(range(len(samples.kinds_of(directions))))
    ups = samples.ups_by_hand(directions, floor)
    pairs = samples.pairs_of(directions)
    braces = [(a, b, "brace") for a, b in pairs]
    mixed = [(a, b, ("more", "less", "brace")[k % 3]) for k, (a, b) in enumerate(pairs[:4])]
    calls = [
        ("rows.can", [path, 0]), ("rows.exchanged", [path, samples.places(directions, path)[0]]),
        ("rows.paths", [row]), ("rows.is_whole_row", [row]), ("rows.is_whole_row", [row[:-1]]),
        ("floors.laid", [row]), ("floors.first_row", [floor]), ("floors.is_floor", [floor]),
        ("floors.is_floor", [floor[1:]]), ("floors.corner", [(0, 1)]), ("far.road", [row, other]),
        ("threes.threes", []), ("threes.up", [floor]), ("threes.floor_by", [ups]),
        ("flips.flippable", [floor]), ("flips.low", []), ("ways.unlike", [floor, another]),
        ("ways.way", [floor, another]), ("holds.pulls", [mixed]), ("stiff.groups", [mixed]),
        ("stiff.there_and_back", [braces]), ("stiff.there_and_back", [[]]), ("stiff.free", [mixed[:1]]),
        ("stiff.free", [braces]), ("stiff.needless", [mixed, 0]), ("stiff.fewest", []),
        ("bending.turn_for", [[0]]), ("bending.bent", [floor, [0], (3, 4, 5)]), ("bending.bent", [floor, [], (1, 0, 1)]),
    ]
    if directions in samples.SMALL:
        calls.append(("listing.all_floors", [300]))
    for three in found("flips.flippable")(samples.sides_of(directions), floor):
        calls.append(("flips.flipped", [floor, three]))
    if len(directions) == 3:
        table = found("heights.heights")(samples.sides_of(directions), floor)
        calls += [("heights.heights", [floor]), ("heights.by_heights", [table])]
    return calls


def lists_in(thing):
    """All lists in a thing, the thing itself among them."""
    told = [thing] if isinstance(thing, list) else []
    if isinstance(thing, (list, tuple)):
        for part in thing:
            told += lists_in(part)
    return told


class TestNothingKept(unittest.TestCase):
    def check(self, sides, name, before):
        # A copy, as the calls share their lists and these are cleared below.
        handed = copy.deepcopy(before)
        told = found(name)(sides, *handed)
        wanted = copy.deepcopy(told)
        self.assertEqual(handed, before)
        inner = lists_in(told)
        # Each list is the asker's own: none is handed in, and none stands twice in what is told.
        numbers = [id(part) for part in inner]
        self.assertEqual(len(set(numbers)), len(numbers))
        self.assertFalse(set(numbers) & {id(part) for part in lists_in(handed)})
        for part in lists_in(handed):
            part.clear()
        self.assertEqual(told, wanted)
        for part in inner:
            part.append("changed")
        self.assertEqual(found(name)(sides, *before), wanted)

    def test_every_function(self):
        for directions in samples.ALL:
            sides = samples.sides_of(directions)
            for name, handed in calls_on(directions):
                with self.subTest(name=name, directions=directions):
                    self.check(sides, name, handed)

    def test_sides_stay_as_they_are(self):
        for directions in samples.ALL:
            sides = samples.sides_of(directions)
            for name, handed in calls_on(directions):
                found(name)(sides, *handed)
            fresh = samples.sides_of(directions)
            self.assertEqual(
                (sides.many(), sides.pairs(), sides.first(), sides.last()),
                (fresh.many(), fresh.pairs(), fresh.first(), fresh.last()),
            )

    def test_determinant(self):
        rows = [[0, 1, 2], [3, 4, 5], [6, 7, 9]]
        determinant = found("counts.determinant")
        told = determinant(rows)
        self.assertEqual(rows, [[0, 1, 2], [3, 4, 5], [6, 7, 9]])
        self.assertEqual(determinant(rows), told)


class TestThePromise(unittest.TestCase):
    def test_rows_and_floors(self):
        for directions in samples.ALL:
            sides = samples.sides_of(directions)
            for seed in range(3):
                row = samples.some_row(directions, seed)
                floor = laid(sides, row)
                back = first_row(sides, floor)
                self.assertIs(is_whole_row(sides, back), True)
                steps = road(sides, row, back)
                for k in steps:
                    self.assertGreaterEqual(abs(row[k] - row[k + 1]), 2)
                    row[k], row[k + 1] = row[k + 1], row[k]
                self.assertEqual(row, back)
                self.assertEqual(floor_by(sides, up(sides, floor)), floor)

    def test_flips(self):
        for directions in samples.ALL:
            sides = samples.sides_of(directions)
            one = laid(sides, samples.some_row(directions, 21))
            other = laid(sides, samples.some_row(directions, 22))
            told = way(sides, one, other)
            apart = unlike(sides, one, other)
            self.assertGreaterEqual(len(told), len(apart))
            if len(directions) <= 3:
                self.assertEqual(len(told), len(apart))
            for three in told:
                behind = flipped(sides, one, three)
                self.assertEqual(unlike(sides, one, behind), [three])
                one = behind
            self.assertEqual(one, other)

    def test_counts(self):
        for p, q, r in ((1, 1, 1), (1, 2, 3), (2, 2, 2), (3, 2, 2), (2, 2, 3), (1, 5, 2), (6, 1, 3)):
            sides = samples.sides_of([(1, 0, p), (1, 1, q), (0, 1, r)])
            many = len(all_floors(sides, 300))
            self.assertEqual((product(p, q, r), by_ways(p, q, r)), (many, many))

    def test_stiff_or_bent(self):
        for directions in samples.ALL:
            sides = samples.sides_of(directions)
            pairs = samples.pairs_of(directions)
            floor = laid(sides, samples.some_row(directions, 4))
            for count in range(0, len(pairs) + 1, 3):
                holds = [(a, b, ("brace", "more", "less")[(a + b) % 3]) for a, b in pairs[:count]]
                some = free(sides, holds)
                self.assertIs(some is None, there_and_back(sides, holds) is not None)
                if some is not None:
                    self.check_bent(sides, floor, holds, some)

    def check_bent(self, sides, floor, holds, some):
        """By the corners that are told, each times its w."""
        told = {below: (x, y, w) for below, x, y, w in bent(sides, floor, some, turn_for(sides, some))}
        signs = {}
        for a, b, below in floor:
            one = self.edge(told, below, tuple(sorted(below + (a,))))
            other = self.edge(told, below, tuple(sorted(below + (b,))))
            # No tile is turned over.
            self.assertGreater(one[0] * other[1] - other[0] * one[1], 0)
            ahead, behind = sides.vector(a), sides.vector(b)
            first = (ahead[0] * behind[0] + ahead[1] * behind[1]) * one[2] * other[2]
            then = one[0] * other[0] + one[1] * other[1]
            signs[(a, b)] = (first > then) - (first < then)
        for a, b, word in holds:
            self.assertIn(signs[(a, b)], {"brace": (0,), "more": (0, 1), "less": (0, -1)}[word])
        self.assertTrue(any(signs.values()))

    def edge(self, told, low, high):
        (x1, y1, w1), (x2, y2, w2) = told[low], told[high]
        return (x2 * w1 - x1 * w2, y2 * w1 - y1 * w2, w1 * w2)


if __name__ == "__main__":
    unittest.main()
