"""Module terms, on which held_at and open_at rest."""

import unittest

from daywatches.terms import (
    day_at, days_in, held_worths, joined_within, open_worths, part_by_shares, terms_days, within_stretch,
)
from tests.lots import COPRIME, E, T, slow_tally, small_lots

STRETCHES = [(0, 1), (0, 7), (-5, 6), (3, 40), (-30, -29), (10 ** 12 - 9, 10 ** 12 + 9)]


def pairs(greatest):
    return [(turn, first) for turn in range(1, greatest) for first in range(turn)]


class TermsTest(unittest.TestCase):
    def test_days_in(self):
        for turn, first in pairs(8):
            for begin in range(-12, 12):
                for end in range(begin, begin + 15):
                    wanted = len([day for day in range(begin, end) if day % turn == first])
                    self.assertEqual(days_in(turn, first, begin, end), wanted)

    def test_within_a_stretch(self):
        for begin, end in STRETCHES:
            for pair in pairs(20) + [(10 ** 13, 4), (10 ** 12, 0)]:
                days = [day for day in range(begin, end) if day % pair[0] == pair[1]]
                told = within_stretch(pair, begin, end)
                self.assertEqual(told is None, not days)
                if days:
                    turn, first = told
                    self.assertEqual([day for day in range(begin, end) if day % turn == first], days)
                if len(days) == 1:
                    self.assertEqual(told, (end - begin, days[0] % (end - begin)))

    def test_joined_within_a_stretch(self):
        for begin, end in STRETCHES:
            for pair in pairs(9) + [(10 ** 13, 4)]:
                known = within_stretch(pair, begin, end)
                if known is None:
                    continue
                for one in pairs(9) + [(10 ** 13, 4), (10 ** 12, 0)]:
                    days = [day for day in range(begin, end) if day % pair[0] == pair[1] and day % one[0] == one[1]]
                    told = joined_within(known, one, begin, end)
                    self.assertEqual(told is None, not days)
                    if days:
                        self.assertEqual([day for day in range(begin, end) if day % told[0] == told[1]], days)

    def test_each_day_is_told_once_or_not_at_all(self):
        for lot in small_lots(60) + [COPRIME, T, E]:
            for begin, end in STRETCHES:
                opened, held = open_worths(lot, begin, end), held_worths(lot, begin, end)
                for day in range(begin, end):
                    for worths, wanted in ((opened, slow_tally(lot, day) == 0), (held, slow_tally(lot, day) > 0)):
                        told = sum(worth for (turn, first), worth in worths.items() if day % turn == first)
                        self.assertEqual(told, wanted)

    def test_what_takes_away_each_other_is_left_out(self):
        # On the days told here all ten meet just once, so there need not be a term for each choice of them.
        lot = tuple((10 ** 12 - k, k) for k in range(10))
        worths = open_worths(lot, -10 ** 18, 10 ** 18)
        self.assertLessEqual(len(worths), 12)
        self.assertEqual(len(open_worths(lot, 20, 50)), 1)

    def test_the_part_by_shares_has_the_day(self):
        for lot in small_lots(80):
            for begin, end in ((0, 90), (-77, 60)):
                worths = open_worths(lot, begin, end)
                terms = [(turn, first, worth) for (turn, first), worth in worths.items()]
                days = [day for day in range(begin, end) if slow_tally(lot, day) == 0]
                self.assertEqual(terms_days(terms, begin, end), len(days))
                for place, day in enumerate(days):
                    low, high = part_by_shares(terms, begin, end, place + 1)
                    self.assertTrue(begin <= low <= day < high <= end)
                    self.assertEqual(day_at(worths, begin, end, place + 1), day)

    def test_shares_that_tell_nothing(self):
        # Day 2 alone is told of these three days, while the shares take each other away, or come to less than 0.
        self.assertEqual(part_by_shares([(2, 0, 1), (3, 0, -1)], 0, 3, 1), (0, 3))
        self.assertEqual(day_at({(2, 0): 1, (3, 0): -1}, 0, 3, 1), 2)
        few = {(3, 0): 1, (4, 0): 1, (5, 0): -2}
        self.assertEqual(part_by_shares([(3, 0, 1), (4, 0, 1), (5, 0, -3)], 0, 5, 1), (0, 5))
        self.assertEqual([day_at(few, 0, 5, 1), day_at(few, 0, 5, 2)], [3, 4])


if __name__ == "__main__":
    unittest.main()
