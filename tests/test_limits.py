"""Point 103: the limits."""

import unittest

from cutpapers import limits

VALUES = {
    "MOST_PROCESSES": 6,
    "MOST_EVENTS": 30,
    "MOST_VALUE": 1000,
    "MOST_LETTER": 999,
    "MOST_TERMS": 6,
    "MOST_WEIGHT": 9,
    "MOST_BOUND": 100000,
    "MOST_NESTING": 6,
}


class TestLimits(unittest.TestCase):

    def test_each_has_its_value(self):
        for name, value in VALUES.items():
            self.assertIs(int, type(getattr(limits, name)), name)
            self.assertEqual(value, getattr(limits, name), name)


if __name__ == "__main__":
    unittest.main()
