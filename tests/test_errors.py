import unittest

from slantfloor import errors
from slantfloor.errors import NoRow, SlantError

REFUSALS = (
    "NoSides", "NoRow", "NoFloor", "NoThrees", "NoFlip",
    "NoHeights", "TooMany", "NoHold", "NoTurn", "NoText",
)


def made(name):
    refusal = getattr(errors, name)
    return refusal(0) if name == "NoRow" else refusal("some words")


class TestErrors(unittest.TestCase):
    def test_any_refusal_is_a_value_error(self):
        self.assertTrue(issubclass(SlantError, ValueError))
        with self.assertRaises(ValueError):
            raise SlantError("some words")

    def test_each_refusal_is_a_slant_error(self):
        for name in REFUSALS:
            with self.subTest(name=name):
                with self.assertRaises(SlantError):
                    raise made(name)

    def test_none_stands_under_another_one(self):
        for name in REFUSALS:
            for other in REFUSALS:
                with self.subTest(name=name, other=other):
                    self.assertEqual(isinstance(made(name), getattr(errors, other)), name == other)

    def test_slant_error_is_none_of_them(self):
        for name in REFUSALS:
            with self.subTest(name=name):
                self.assertNotIsInstance(SlantError("some words"), getattr(errors, name))

    def test_a_row_refused_has_its_step(self):
        for step in (0, 1, 66, 1000, 10 ** 12):
            with self.subTest(step=step):
                self.assertEqual(NoRow(step).step, step)

    def test_the_step_is_there_when_taken(self):
        with self.assertRaises(NoRow) as taken:
            raise NoRow(7)
        self.assertEqual(taken.exception.step, 7)

    def test_each_row_refused_has_a_step_of_its_own(self):
        one = NoRow(3)
        NoRow(5)
        self.assertEqual(one.step, 3)


if __name__ == "__main__":
    unittest.main()
