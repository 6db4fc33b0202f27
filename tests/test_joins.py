"""Module joins, on which meeting, seen and crossed rest."""

import math
import unittest

from daywatches.bounds import MAX_TURN
from daywatches.joins import inverse, joined, solved, without_none


class JoinsTest(unittest.TestCase):
    def test_inverse(self):
        for size in list(range(1, 40)) + [MAX_TURN - 1, MAX_TURN]:
            for number in (-7, -1, 1, 2, 3, 5, 7, 11, 10 ** 40 + 9):
                if math.gcd(number, size) == 1:
                    told = inverse(number, size)
                    self.assertTrue(0 <= told < size)
                    self.assertEqual(number * told % size, 1 % size)

    def test_solved(self):
        for turn in range(1, 13):
            for factor in range(1, 14):
                for worth in range(-13, 14):
                    days = [d for d in range(turn) if (factor * d - worth) % turn == 0]
                    told = solved(factor, worth, turn)
                    self.assertEqual(told, (turn // len(days), days[0]) if days else None)

    def test_joined(self):
        for turn in range(1, 9):
            for other in range(1, 9):
                for first in range(turn):
                    for other_first in range(other):
                        days = [d for d in range(turn * other) if d % turn == first and d % other == other_first]
                        told = joined((turn, first), (other, other_first))
                        self.assertEqual(told, (math.lcm(turn, other), days[0]) if days else None)

    def test_without_none(self):
        self.assertEqual(without_none([None, 0, None, (), 2]), [0, (), 2])


if __name__ == "__main__":
    unittest.main()
