import unittest

from slantfloor.wholes import is_whole


class TestIsWhole(unittest.TestCase):
    def test_whole_numbers(self):
        for thing in (0, 1, -1, 2, 12, -999999999999, 10 ** 299, -(10 ** 299)):
            with self.subTest(thing=thing):
                self.assertIs(is_whole(thing), True)

    def test_truths_are_none(self):
        self.assertIs(is_whole(True), False)
        self.assertIs(is_whole(False), False)

    def test_other_things_are_none(self):
        for thing in (None, "", "1", "-1", "one", [], [1], (), (1,), (1, 2, 3), [True]):
            with self.subTest(thing=thing):
                self.assertIs(is_whole(thing), False)

    def test_a_list_stays_as_it_was(self):
        thing = [1, 2]
        is_whole(thing)
        self.assertEqual(thing, [1, 2])


if __name__ == "__main__":
    unittest.main()
