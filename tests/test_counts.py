import copy
import itertools
import math
import random
import unittest
from fractions import Fraction

import samples
from slantfloor.counts import by_ways, choose, determinant, product


def product_by_hand(p, q, r):
    told = Fraction(1)
    for i in range(1, p + 1):
        for j in range(1, q + 1):
            for k in range(1, r + 1):
                told *= Fraction(i + j + k - 1, i + j + k - 2)
    return told


def determinant_by_hand(rows):
    """The sum over all orders of the columns."""
    told = 0
    for order in itertools.permutations(range(len(rows))):
        turned = sum(1 for one, other in itertools.combinations(order, 2) if one > other)
        told += (-1) ** turned * math.prod(rows[k][order[k]] for k in range(len(rows)))
    return told


class TestProduct(unittest.TestCase):
    def test_some(self):
        self.assertEqual(product(1, 1, 1), 2)
        self.assertEqual(product(1, 1, 10), 11)
        self.assertEqual(product(2, 1, 2), 6)
        self.assertEqual(product(2, 2, 2), 20)
        self.assertEqual(product(3, 3, 3), 980)
        self.assertEqual(product(4, 4, 4), 232848)
        self.assertEqual(product(10, 10, 10), 9265037718181937012241727284450000)

    def test_as_the_document_says(self):
        for p in (1, 2, 3, 4, 7, 10):
            for q in (1, 2, 3, 5, 9, 10):
                for r in (1, 2, 3, 6, 8, 10):
                    told = product(p, q, r)
                    self.assertIsInstance(told, int)
                    self.assertEqual(told, product_by_hand(p, q, r))

    def test_as_many_as_there_are_floors(self):
        for p, q, r in ((1, 1, 1), (2, 1, 2), (1, 3, 2), (2, 2, 2), (3, 2, 1), (2, 3, 2)):
            floors = samples.every_floor([(1, 0, p), (1, 1, q), (0, 1, r)])
            self.assertEqual(product(p, q, r), len(floors))


class TestChoose(unittest.TestCase):
    def test_all_within(self):
        for n in range(61):
            for k in range(n + 1):
                self.assertEqual(choose(n, k), math.comb(n, k))

    def test_below_none(self):
        for n in (0, 1, 5, 60):
            for k in (-1, -2, -60, -999999999999, -(10 ** 299)):
                self.assertEqual(choose(n, k), 0)

    def test_above_all(self):
        for n in (0, 1, 5, 60):
            for k in (n + 1, n + 2, 2 * n + 1, 999999999999, 10 ** 299):
                self.assertEqual(choose(n, k), 0)

    def test_none_and_all(self):
        for n in (0, 1, 7, 60):
            self.assertEqual(choose(n, 0), 1)
            self.assertEqual(choose(n, n), 1)
        self.assertEqual(choose(60, 30), 118264581564861424)


class TestDeterminant(unittest.TestCase):
    def test_of_none(self):
        self.assertEqual(determinant([]), 1)

    def test_of_one_number(self):
        for number in (0, 1, -1, 7, 10 ** 299, -(10 ** 299)):
            self.assertEqual(determinant([[number]]), number)

    def test_of_two_lists(self):
        self.assertEqual(determinant([[1, 2], [3, 4]]), -2)
        self.assertEqual(determinant([[0, 1], [1, 0]]), -1)
        self.assertEqual(determinant([[0, 0], [1, 5]]), 0)
        self.assertEqual(determinant([[2, 3], [0, 5]]), 10)

    def test_of_all_small_lists(self):
        for numbers in itertools.product((-1, 0, 1, 2), repeat=4):
            rows = [list(numbers[:2]), list(numbers[2:])]
            self.assertEqual(determinant(rows), numbers[0] * numbers[3] - numbers[1] * numbers[2])
        for numbers in itertools.product((-1, 0, 2), repeat=9):
            rows = [list(numbers[:3]), list(numbers[3:6]), list(numbers[6:])]
            self.assertEqual(determinant(rows), determinant_by_hand(rows))

    def test_of_a_zero_where_one_would_divide(self):
        self.assertEqual(determinant([[0, 2, 1], [3, 0, 1], [1, 1, 0]]), 5)
        self.assertEqual(determinant([[0, 0, 1], [0, 1, 0], [1, 0, 0]]), -1)
        self.assertEqual(determinant([[0, 1, 0], [0, 0, 1], [1, 0, 0]]), 1)
        self.assertEqual(determinant([[1, 2, 3], [2, 4, 5], [3, 5, 6]]), -1)
        self.assertEqual(determinant([[0, 0, 0, 1], [0, 0, 1, 0], [0, 1, 0, 0], [1, 0, 0, 0]]), 1)

    def test_of_lists_that_depend_on_one_another(self):
        self.assertEqual(determinant([[1, 2, 3], [4, 5, 6], [7, 8, 9]]), 0)
        self.assertEqual(determinant([[1, 2], [1, 2]]), 0)
        self.assertEqual(determinant([[3, 1, 0], [0, 0, 0], [2, 5, 4]]), 0)
        self.assertEqual(determinant([[0, 1, 2], [0, 3, 4], [0, 5, 6]]), 0)
        self.assertEqual(determinant([[k * j for j in range(1, 7)] for k in range(1, 7)]), 0)

    def test_of_up_to_six_lists(self):
        choice = random.Random(4)
        for size in range(1, 7):
            for most in (1, 2, 9, 10 ** 12, 10 ** 40):
                for turn in range(4):
                    rows = [[choice.randint(-most, most) for j in range(size)] for i in range(size)]
                    self.assertEqual(determinant(rows), determinant_by_hand(rows))

    def test_nothing_kept(self):
        rows = [[0, 2, 1], [3, 0, 1], [1, 1, 0]]
        before = copy.deepcopy(rows)
        determinant(rows)
        self.assertEqual(rows, before)


class TestByWays(unittest.TestCase):
    def test_as_many_as_the_product(self):
        for p in range(1, 11):
            for q in range(1, 11):
                for r in range(1, 7):
                    self.assertEqual(by_ways(p, q, r), product(p, q, r))

    def test_some(self):
        self.assertEqual(by_ways(1, 1, 1), 2)
        self.assertEqual(by_ways(2, 2, 2), 20)
        self.assertEqual(by_ways(10, 10, 6), product_by_hand(10, 10, 6))

    def test_the_determinant_of_the_ways(self):
        for p, q, r in ((1, 1, 1), (2, 3, 2), (4, 1, 3), (5, 6, 4), (1, 1, 6)):
            ways = [
                [math.comb(p + q, p - i + j) if p - i + j >= 0 else 0 for j in range(r)]
                for i in range(r)
            ]
            self.assertEqual(by_ways(p, q, r), determinant_by_hand(ways))


if __name__ == "__main__":
    unittest.main()
