"""Point 4: the limits."""

import unittest

from payorder import limits


class TestLimits(unittest.TestCase):
    def test_each_limit_has_its_value(self):
        expected = {
            "MAX_DEMANDS": 10,
            "MAX_OFFERS": 10,
            "MAX_AMOUNT": 1000000000000,
            "MAX_BLOCKS": 6,
            "MAX_OPERATIONS": 60,
            "MAX_BATCH": 20,
            "LOG_SIZE": 100,
        }
        for name, value in expected.items():
            with self.subTest(name):
                self.assertIs(type(getattr(limits, name)), int)
                self.assertEqual(getattr(limits, name), value)


if __name__ == "__main__":
    unittest.main()
