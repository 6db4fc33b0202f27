"""[Z2]: the bounds."""

import unittest

from daywatches import bounds


class BoundsTest(unittest.TestCase):
    def test_bounds(self):
        told = {
            "MAX_TURN": 1000000000000,
            "MAX_WATCHES": 10,
            "MAX_LITTLE": 60,
            "MAX_SMALL": 6,
            "MAX_SEEN": 8,
            "MAX_ROUND": 2520,
            "MAX_EDITS": 30,
            "BATCH": 12,
            "HISTORY": 10,
        }
        for name, worth in told.items():
            with self.subTest(name):
                self.assertIs(type(getattr(bounds, name)), int)
                self.assertEqual(getattr(bounds, name), worth)


if __name__ == "__main__":
    unittest.main()
