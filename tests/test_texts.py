import unittest

from slantfloor.errors import NoText, SlantError
from slantfloor.texts import read_number


class TestReadNumber(unittest.TestCase):
    def test_numbers(self):
        for number in (0, 1, -1, 9, 10, -10, 100, 305, -7001, 123456789012, 999999999999, -999999999999, 100000000000):
            told = read_number(str(number))
            self.assertEqual(told, number)
            self.assertIsInstance(told, int)

    def test_all_small_ones(self):
        for number in range(-1100, 1101):
            self.assertEqual(read_number(str(number)), number)

    def test_refused(self):
        for word in (
            # No figure.
            "", "-", "--", "a", "x1", "one", ".", ",", "*", "~",
            # A 0 ahead, and -0.
            "00", "01", "-01", "007", "-00", "-0", "0000000000000", "000000000001",
            # Other signs.
            "+1", "+0", "--1", "-+1", "1-", "1-2", "1.0", "1e3", "1_000", "1,000", "0x1", "0b1", "12a", "a12", "1/2", "'1'",
            # Blanks.
            " ", " 1", "1 ", "1 2", "- 1", "-1 ",
            # Thirteen figures and more.
            "1000000000000", "-1000000000000", "1234567890123", "9" * 300, "-" + "9" * 13,
        ):
            with self.subTest(word=word):
                with self.assertRaises(NoText) as taken:
                    read_number(word)
                self.assertIsInstance(taken.exception, SlantError)

    def test_each_sign_alone_and_beside_a_figure(self):
        for number in range(32, 127):
            sign = chr(number)
            if sign not in "0123456789":
                for word in (sign, "1" + sign, "1" + sign + "1", "-" + sign, "-" + sign + "1"):
                    with self.assertRaises(NoText):
                        read_number(word)
                if sign != "-":
                    with self.assertRaises(NoText):
                        read_number(sign + "1")

    def test_figures_of_other_scripts(self):
        for word in ("\u0661", "\u00b2", "1\u0661", "\uff11"):
            with self.assertRaises(NoText):
                read_number(word)


if __name__ == "__main__":
    unittest.main()
