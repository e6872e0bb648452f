"""Points 101 and 108: integers and their texts."""

import unittest

from cutpapers.texts import integer_of, is_integer
from tests.samples import HostileInt, other_values


class TestIsInteger(unittest.TestCase):

    def test_from_least_to_greatest(self):
        for value in range(-5, 6):
            self.assertIs(-2 <= value <= 3, is_integer(value, -2, 3), value)

    def test_least_equal_to_greatest_or_greater(self):
        self.assertIs(True, is_integer(4, 4, 4))
        self.assertIs(False, is_integer(4, 5, 4))
        self.assertIs(False, is_integer(4, 4, 3))

    def test_true_and_false_are_none(self):
        self.assertIs(False, is_integer(True, 0, 5))
        self.assertIs(False, is_integer(False, 0, 5))
        self.assertIs(True, is_integer(1, 0, 5))
        self.assertIs(True, is_integer(0, 0, 5))

    def test_any_value(self):
        for value in other_values():
            if type(value) is not int:
                self.assertIs(False, is_integer(value, -10, 10))
        self.assertIs(False, is_integer(HostileInt(1), 0, 5))
        self.assertIs(False, is_integer(1.0, 0, 5))
        self.assertIs(False, is_integer("1", 0, 5))

    def test_very_large(self):
        self.assertIs(False, is_integer(10 ** 5000, 0, 5))
        self.assertIs(True, is_integer(10 ** 30, 0, 10 ** 31))


class TestIntegerOf(unittest.TestCase):

    def test_reads_what_is_written(self):
        for number in list(range(-1100, 1101)) + [99999, 100000, 123456, 999999, -99999, -100000, -999999]:
            self.assertEqual(number, integer_of(str(number)))
            self.assertIs(int, type(integer_of(str(number))))

    def test_six_and_seven_digits(self):
        self.assertEqual(999999, integer_of("999999"))
        self.assertEqual(-999999, integer_of("-999999"))
        self.assertIsNone(integer_of("1000000"))
        self.assertIsNone(integer_of("-1000000"))
        self.assertIsNone(integer_of("9" * 10000))

    def test_zero(self):
        self.assertEqual(0, integer_of("0"))
        for word in ("-0", "00", "+0", "-00", "000000"):
            self.assertIsNone(integer_of(word), word)

    def test_what_writes_no_integer(self):
        words = ["", "-", "--1", "+1", "01", "-01", "007", " 1", "1 ", "1\n", "\n1", "-  1", "- 1", "1.0", "1e3", "0x1"]
        words += ["1_0", "a", "1a", "a1", "1-", "1,0", "\u0661", "\u00b2", "\uff11", "\u2212" + "1", "None", "True"]
        for word in words:
            self.assertIsNone(integer_of(word), word)

    def test_what_is_no_string(self):
        for value in (None, 5, True, b"5", ["5"], ("5",)):
            self.assertIsNone(integer_of(value))


if __name__ == "__main__":
    unittest.main()
