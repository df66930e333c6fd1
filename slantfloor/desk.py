"""The desk, which is told rows of text and answers each by a text [28]."""

from slantfloor.errors import NoHold, NoText
from slantfloor.flips import flippable, flipped, low
from slantfloor.floors import first_row, laid
from slantfloor.heights import heights
from slantfloor.holds import WORDS, pulls
from slantfloor.listing import all_floors
from slantfloor.sides import Sides
from slantfloor.stiff import free, needless
from slantfloor.texts import read_number
from slantfloor.threes import up
from slantfloor.ways import unlike

MOST_FLOORS = 300


def read_direction(word):
    ahead = word.partition(",")
    behind = ahead[2].partition("*")
    return (read_number(ahead[0]), read_number(behind[0]), read_number(behind[2]))


def written(numbers, between):
    return between.join([str(number) for number in numbers])


def written_threes(some):
    if not some:
        return "-"
    return " ".join([written(three, ".") for three in some])


class Desk:
    def __init__(self):
        self.sides = Sides([(1, 0, 1), (0, 1, 1)])
        self.floor = low(self.sides)
        self.holds = []

    def say(self, row):
        words = row.split(" ")
        if words[0] == "sides" and len(words) > 1:
            return self.take_sides([read_direction(word) for word in words[1:]])
        # All numbers are read ahead of all else, so that no other refusal comes ahead of NoText.
        return self.answer(words[0], [read_number(word) for word in words[1:]])

    def answer(self, word, numbers):
        if word == "lay":
            return self.take_floor(laid(self.sides, numbers))
        if word == "unlike":
            return written_threes(unlike(self.sides, self.floor, laid(self.sides, numbers)))
        if len(numbers) == 0:
            return self.answer_alone(word)
        if len(numbers) == 1:
            return self.answer_with_one(word, numbers[0])
        if len(numbers) == 2 and word in WORDS:
            return self.take_holds(self.holds + [(numbers[0], numbers[1], word)])
        if len(numbers) == 3 and word == "flip":
            return self.flip(tuple(numbers))
        raise NoText("nothing is asked by this row")

    def answer_alone(self, word):
        if word == "low":
            return self.take_floor(low(self.sides))
        if word == "row":
            return written(first_row(self.sides, self.floor), " ")
        if word == "ups":
            return written_threes(up(self.sides, self.floor))
        if word == "flips":
            return written_threes(flippable(self.sides, self.floor))
        if word == "heights":
            return "/".join([written(numbers, " ") for numbers in heights(self.sides, self.floor)])
        if word == "stiff":
            return self.tell_stiff()
        raise NoText("nothing is asked by this word alone")

    def answer_with_one(self, word, number):
        if word == "count":
            return self.tell_count(number)
        if word == "loosen":
            self.check_place(number)
            return self.take_holds(self.holds[:number] + self.holds[number + 1:])
        if word == "needless":
            self.check_place(number)
            return "yes" if needless(self.sides, self.holds, number) else "no"
        raise NoText("nothing is asked by this word and a number")

    # Whatever can be refused is done ahead of the first change, so that what is refused changes nothing.

    def take_sides(self, directions):
        sides = Sides(directions)
        floor = low(sides)
        self.sides = sides
        self.floor = floor
        self.holds = []
        return "ok"

    def take_floor(self, floor):
        self.floor = floor
        return "ok"

    def take_holds(self, holds):
        pulls(self.sides, holds)
        self.holds = holds
        return str(len(holds))

    def flip(self, three):
        self.floor = flipped(self.sides, self.floor, three)
        return "up" if three in up(self.sides, self.floor) else "down"

    def check_place(self, number):
        if not 0 <= number < len(self.holds):
            raise NoHold("there is no hold at this place")

    def tell_count(self, most):
        if not 0 <= most <= MOST_FLOORS:
            raise NoText("the most is from 0 to 300")
        return str(len(all_floors(self.sides, most)))

    def tell_stiff(self):
        some = free(self.sides, self.holds)
        return "stiff" if some is None else "free " + written(some, " ")
