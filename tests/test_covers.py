"""[C3], [C4]: module covers; [A2] (a) so far as it speaks of least tallies."""

import math
import random
import unittest

from daywatches.bounds import MAX_SMALL, MAX_TURN, MAX_WATCHES
from daywatches.covers import (
    day_out, greatest_tally, is_held, least_tally, longest_held, open_day, same_days, within,
)
from daywatches.days import counts, meeting, next_open, tally
from daywatches.errors import TooMany
from daywatches.sums import few_days, sums_by
from tests.lots import (
    COPRIME, DOUBLED, EDGES, FAR_DAYS, HALVES, LAST_OPEN, LONG, NONE_OPEN, PRIMES, Clock, E, T, choices, grown_lots,
    kept, slow_round, slow_split, slow_tallies, slow_tally, small_lots,
)

LEASTS = range(1, MAX_WATCHES + 1)

# Great turns without a common divisor with each other or with 2, 3 and 5.
GREAT = (999999999989, 999999999961, 999999999959, 999999999937, 999999999899, 999999999877)


def slow_longest(lot):
    """How many days in a row are held at most, -1 if all are."""
    held = [tally > 0 for tally in slow_tallies(lot)]
    if all(held):
        return -1
    longest = run = 0
    for is_held_day in held + held:
        run = run + 1 if is_held_day else 0
        longest = max(longest, run)
    return longest


class DocExamples(unittest.TestCase):
    def test_examples(self):
        told = [is_held(T, 1), is_held(T, 2), open_day(T, 2), open_day(((2, 0), (3, 0)), 1)]
        self.assertEqual(told, [True, False, 1, 1])
        self.assertEqual([least_tally(T), greatest_tally(T)], [1, 2])
        self.assertEqual([longest_held(((2, 0), (3, 0))), longest_held(E)], [3, -1])

    def test_two_lots(self):
        told = [within(((6, 2),), ((2, 0),)), day_out(((2, 0),), ((6, 2),)) % 6 == 2]
        self.assertEqual(told, [True, False])
        self.assertEqual([same_days(T, ((1, 0),)), within((), ())], [True, True])


class TalliesTest(unittest.TestCase):
    def check(self, lot, tallies):
        self.assertEqual(least_tally(lot), min(tallies))
        self.assertEqual(greatest_tally(lot), max(tallies))
        for least in LEASTS:
            fewer = [day for day, held in enumerate(tallies) if held < least]
            self.assertEqual(open_day(lot, least), fewer[0] if fewer else None)
            self.assertIs(is_held(lot, least), not fewer)

    def test_day_by_day(self):
        for lot in small_lots() + small_lots(100, 4, seed=2) + grown_lots(20, 10, 12):
            self.check(lot, slow_tallies(lot))

    def test_edges(self):
        self.check((), [0])
        self.check(((1, 0),), [1])
        self.check(((1, 0),) * MAX_WATCHES, [MAX_WATCHES])
        self.check(((2, 1), (2, 1)), [0, 2])
        self.check(((2, 0), (2, 1)) * 5, [5, 5])
        self.check(((MAX_TURN, 0),), [1, 0])
        self.check(((MAX_TURN, 0),) * MAX_WATCHES, [10, 0])
        self.check(((MAX_TURN, MAX_TURN - 1),), [0, 1])
        self.check(((1, 0), (MAX_TURN, 5)), [1, 1, 1, 1, 1, 2])
        self.check(((10, 3),) * MAX_WATCHES, [0, 0, 0, 10, 0, 0, 0, 0, 0, 0])
        self.check(tuple((10, k) for k in range(10)), [1])

    def test_few_open_days(self):
        self.check(DOUBLED, slow_tallies(DOUBLED))
        self.check(LAST_OPEN, slow_tallies(LAST_OPEN))
        self.check(NONE_OPEN, slow_tallies(NONE_OPEN))
        self.assertEqual([open_day(DOUBLED, 1), open_day(LAST_OPEN, 1), open_day(NONE_OPEN, 1)], [1023, 511, None])
        self.assertEqual([open_day(DOUBLED, 2), is_held(NONE_OPEN, 1), is_held(DOUBLED, 1)], [0, True, False])
        # A day that is open once in 1024, behind all others of its round, with a watch that holds it now and then.
        self.assertEqual(open_day(DOUBLED[:9] + ((MAX_TURN, 511),), 1), 512 + 511)

    def test_held_more_than_once(self):
        for times in (2, 3, 5):
            lot = ((2, 0), (2, 1)) * times
            self.assertEqual([open_day(lot, times), open_day(lot, times + 1)], [None, 0])
            less = lot[:-1] + ((2 ** 10, 1),)
            self.assertEqual([open_day(less, times), least_tally(less), greatest_tally(less)], [3, times - 1, times])
        lot = DOUBLED[:4] + ((16, 15),) + ((1, 0),) * 3
        self.assertEqual([least_tally(lot), greatest_tally(lot), open_day(lot, 5)], [4, 4, 0])
        self.assertEqual(open_day(DOUBLED[:4] + ((1, 0),) * 3, 4), 15)

    def test_long_lots(self):
        for lot in LONG:
            with self.subTest(lot), Clock(self):
                least, greatest = least_tally(lot), greatest_tally(lot)
                found = [open_day(lot, most) for most in LEASTS]
            self.assertEqual(found[0], next_open(lot, 0))
            for most, day in zip(LEASTS, found):
                self.assertIs(is_held(lot, most), day is None)
                self.assertEqual(day is None, least >= most)
                if day is not None:
                    self.assertLess(slow_tally(lot, day), most)
                    self.assertTrue(all(slow_tally(lot, ahead) >= most for ahead in range(day)))
            most = max(some for some in choices(range(len(lot))) if meeting(lot, some) is not None)
            self.assertGreaterEqual(greatest, len(most))
        self.assertEqual([greatest_tally(COPRIME), greatest_tally(PRIMES), greatest_tally(HALVES)], [10, 10, 9])
        self.assertEqual([least_tally(COPRIME), least_tally(HALVES), least_tally(NONE_OPEN)], [0, 1, 1])

    def test_greatest_tally_comes_far_away(self):
        # Each two of these meet but two, and no day below 10 ** 12 has more than one.
        lot = ((GREAT[0], 1), (GREAT[1], 2), (2 * GREAT[2], 4), (2 * GREAT[3], 5))
        self.assertEqual(greatest_tally(lot), 3)
        self.assertEqual(greatest_tally(lot[2:]), 1)
        self.assertEqual(greatest_tally(((MAX_TURN, 1), (MAX_TURN, 2), (MAX_TURN - 1, 4))), 2)

    def test_as_counts_tells(self):
        for lot in EDGES + small_lots(60, 12, 8, 3):
            whole = slow_round(lot)
            told = [many for many, days in enumerate(counts(lot, -whole, whole)) if days > 0]
            self.assertEqual([least_tally(lot), greatest_tally(lot)], [told[0], told[-1]])

    def test_few_days_in_a_row_tell_all(self):
        source = random.Random(19)
        decided = {True: 0, False: 0}
        lots = small_lots(150, 6, 10, 11) + LONG + [NONE_OPEN[:3] + ((8, 7),) + ((1, 0),) * 2]
        for lot in lots:
            weights = tuple(
                source.choice([k for k in range(1, min(turn, 60) + 1) if math.gcd(k, turn) == 1]) for turn, _ in lot
            )
            many = len(sums_by(lot, weights))
            for least in (1, 2, 3):
                always = is_held(lot, least)
                decided[always] += 1
                for begin in (0, source.randrange(-999, 999), source.choice(FAR_DAYS)):
                    self.assertEqual(all(tally(lot, day) >= least for day in range(begin, begin + many)), always)
        self.assertGreater(min(decided.values()), 50)

    def test_by_name(self):
        self.assertIs(is_held(least=2, lot=T), False)
        self.assertEqual(open_day(least=2, lot=T), 1)
        self.assertEqual([least_tally(lot=T), greatest_tally(lot=T), longest_held(lot=E)], [1, 2, -1])


class LongestHeldTest(unittest.TestCase):
    def test_day_by_day(self):
        found = set()
        for lot in small_lots(250, 10, MAX_SMALL, 21) + small_lots(100, 5, MAX_SMALL, 22):
            told = longest_held(lot)
            self.assertEqual(told, slow_longest(lot))
            self.assertLess(told, few_days(lot))
            found.add(told)
        self.assertGreater(len(found), 10)

    def test_edges(self):
        self.assertEqual(longest_held(()), 0)
        self.assertEqual(longest_held(((1, 0),)), -1)
        self.assertEqual(longest_held(((1, 0),) * MAX_SMALL), -1)
        self.assertEqual(longest_held(((2, 1), (2, 1))), 1)
        self.assertEqual(longest_held(((2, 0), (2, 1))), -1)
        self.assertEqual(longest_held(((MAX_TURN, MAX_TURN - 1),)), 1)
        self.assertEqual(longest_held(((MAX_TURN, 0), (MAX_TURN, MAX_TURN - 1))), 2)
        self.assertEqual(longest_held(((MAX_TURN, 0), (MAX_TURN, 2))), 1)
        self.assertEqual(longest_held(((5, 0), (5, 1), (5, 2), (5, 3))), 4)
        self.assertEqual(longest_held(((3, 2), (3, 1), (6, 3))), 5)
        self.assertEqual(longest_held(DOUBLED[:MAX_SMALL]), 63)
        self.assertEqual(longest_held(DOUBLED[:5] + ((64, 63),)), 63)
        self.assertEqual(longest_held(DOUBLED[:5] + ((MAX_TURN, 31),)), 63)
        self.assertEqual(longest_held(DOUBLED[:5] + ((32, 31),)), -1)

    def test_runs_far_away(self):
        # Any day of the one watch comes beside any day of the others somewhere.
        self.assertEqual(longest_held(tuple((turn, 7 * turn // 11) for turn in GREAT)), 6)
        self.assertEqual(longest_held(((2, 0),) + tuple((turn, 7) for turn in GREAT[:5])), 11)
        self.assertEqual(longest_held(((2, 0), (3, 0)) + tuple((turn, 3) for turn in GREAT[:4])), 15)
        self.assertEqual(longest_held(((2, 0), (3, 0), (5, 0)) + tuple((turn, 9) for turn in GREAT[:3])), 17)
        # The great watches never stand beside each other here, or in this order only.
        self.assertEqual(longest_held(((2 * GREAT[0], 0), (2 * GREAT[1], 0))), 1)
        self.assertEqual(longest_held(((2 * GREAT[0], 0), (2 * GREAT[1], 1))), 2)
        self.assertEqual(longest_held(((6 * GREAT[0], 0), (6 * GREAT[1], 2), (6 * GREAT[2], 4), (2, 1))), 7)

    def test_short_time(self):
        lots = [COPRIME[:6], PRIMES[:6], PRIMES[4:], HALVES[2:8], tuple((turn, 3) for turn in (7, 9, 10, 11, 13, 17))]
        for lot in lots:
            with self.subTest(lot), Clock(self):
                told = longest_held(lot)
            self.assertGreater(told, 3)
            self.assertLess(told, few_days(lot))

    def test_too_many(self):
        for lot in (((1, 0),) * 7, T + T, DOUBLED, COPRIME, NONE_OPEN, ((2, 0),) * 7):
            for _ in range(2):
                with self.assertRaises(TooMany) as caught:
                    longest_held(lot)
                self.assertEqual(caught.exception.limit, 6)
        self.assertEqual(longest_held(T + ((1, 0),)), -1)


class TwoLotsTest(unittest.TestCase):
    def check(self, one, other, days):
        out = [day for day in days if slow_tally(one, day) > 0 and slow_tally(other, day) == 0]
        told = day_out(one, other)
        self.assertIs(within(one, other), not out)
        self.assertEqual(told is None, not out)
        if told is not None:
            self.assertIs(type(told), int)
            self.assertGreater(slow_tally(one, told), 0)
            self.assertEqual(slow_tally(other, told), 0)
        return not out

    def test_day_by_day(self):
        source = random.Random(17)
        lots = small_lots(60, 8, 6, 18) + small_lots(60, 4, 10, 19) + grown_lots(20, 10, 12)
        decided = {True: 0, False: 0}
        for _ in range(1200):
            one, other = source.choice(lots), source.choice(lots)
            if source.random() < 0.4:
                other = one[:source.randint(0, len(one))] + other[:2]
            days = range(math.lcm(slow_round(one), slow_round(other)))
            if len(days) > 2520:
                continue
            there, back = self.check(one, other, days), self.check(other, one, days)
            self.assertIs(same_days(one, other), there and back)
            self.assertIs(same_days(other, one), there and back)
            decided[there and back] += 1
        self.assertGreater(min(decided.values()), 40)

    def test_edges(self):
        for lot in EDGES + LONG:
            self.assertIs(within((), lot), True)
            self.assertIsNone(day_out((), lot))
            self.assertIs(within(lot, lot), True)
            self.assertIs(same_days(lot, lot), True)
            self.assertIs(same_days(lot, lot[::-1]), True)
            self.assertIs(within(lot, ((1, 0),)), True)
            self.assertIs(within(((1, 0),), lot), is_held(lot, 1))
            self.assertIs(same_days(lot, ()), lot == ())
            if lot:
                self.assertIs(within(lot, ()), False)
                self.assertGreater(slow_tally(lot, day_out(lot, ())), 0)

    def test_great_turns(self):
        for turn in (MAX_TURN, MAX_TURN // 10, 999999999990):
            one = ((turn // 10, 77),)
            parts = slow_split(one, 0, 10)
            with Clock(self):
                self.assertIs(same_days(one, parts), True)
                self.assertIs(within(parts[:9], one), True)
                self.assertIs(within(one, parts[:9]), False)
                self.assertEqual(day_out(one, parts[1:]) % turn, 77)
                self.assertEqual(day_out(one + ((turn, 78),), parts) % turn, 78)

    def test_days_that_only_come_far_away(self):
        a, b = GREAT[:2]
        # Of the days of a just those that b holds are held by other, too, or just those that it does not.
        self.check(((a, 5),), ((b, 6),), [5])
        self.assertEqual(day_out(((a, 5),), ((2, 0), (2, 1))), None)
        told = day_out(((a, 5),), ((2, 0), (4, 1), (8, 3), (16, 7)))
        self.assertEqual([told % a, told % 16], [5, 15])
        told = day_out(((a, 5), (b, 6)), ((a, 5),))
        self.assertEqual([told % b, told % a != 5], [6, True])

    def test_short_time(self):
        for one in LONG:
            for other in LONG:
                with self.subTest(one=one, other=other), Clock(self):
                    told = [day_out(one, other), within(one, other), same_days(one, other)]
                self.assertEqual(told[0] is None, told[1])
                if told[0] is not None:
                    self.assertGreater(slow_tally(one, told[0]), 0)
                    self.assertEqual(slow_tally(other, told[0]), 0)
        self.assertIs(same_days(NONE_OPEN, HALVES), True)
        self.assertIs(within(DOUBLED, NONE_OPEN), True)
        self.assertIs(within(NONE_OPEN, DOUBLED), False)

    def test_all_parts_of_a_lot(self):
        for lot in (T, E, ((2, 0), (3, 1), (6, 3), (4, 1)), ((2, 1), (2, 1), (4, 3), (1, 0))):
            days = range(slow_round(lot))
            for some in choices(range(len(lot))):
                for others in choices(range(len(lot))):
                    self.check(kept(lot, some), kept(lot, others), days)

    def test_by_name(self):
        self.assertIs(within(other=((2, 0),), one=((6, 2),)), True)
        self.assertEqual(day_out(other=((2, 0),), one=((6, 2),)), None)
        self.assertIs(same_days(other=((2, 0),), one=((6, 2),)), False)


class EqualCallsTest(unittest.TestCase):
    def test_equal_calls_get_equal_results(self):
        for lot in EDGES + LONG:
            again = tuple((turn, first) for turn, first in lot)
            for _ in range(2):
                for made in (least_tally, greatest_tally):
                    self.assertEqual(made(lot), made(again))
                self.assertEqual(longest_held(lot[:6]), longest_held(again[:6]))
                for least in LEASTS:
                    self.assertEqual(open_day(lot, least), open_day(again, least))
                self.assertEqual(day_out(lot, T), day_out(again, T))
            self.assertEqual(again, lot)


if __name__ == "__main__":
    unittest.main()
