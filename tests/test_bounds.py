"""The ten limits of mayrest.bounds."""

import unittest

from mayrest import bounds

LIMITS = {
    "BATCH": 10,
    "MAX_CUTS": 4,
    "MAX_EDITS": 40,
    "MAX_LISTED": 6,
    "MAX_MODULES": 24,
    "MAX_MOVES": 2,
    "MAX_NAMES": 6,
    "MAX_RULE_NAMES": 4,
    "MAX_RULES": 8,
    "MAX_USES": 200,
}


class TestBounds(unittest.TestCase):

    def test_each_limit_has_its_number(self):
        for name, number in LIMITS.items():
            with self.subTest(limit=name):
                self.assertEqual(getattr(bounds, name), number)

    def test_each_limit_is_an_integer(self):
        for name in LIMITS:
            with self.subTest(limit=name):
                self.assertEqual(type(getattr(bounds, name)).__name__, "int")


if __name__ == "__main__":
    unittest.main()
