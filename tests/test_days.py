"""[B1], [B2], [B3], [B4]: module days; [A2] (c); what [A3] and [A4] say of days."""

import itertools
import math
import random
import unittest
from fractions import Fraction

from daywatches.bounds import MAX_TURN, MAX_WATCHES
from daywatches.days import (
    counts, day_shares, held_at, holders, meeting, next_held, next_open, open_at, tally,
)
from tests.lots import (
    COPRIME, DOUBLED, EDGES, FAR_DAYS, HALVES, LAST_OPEN, LONG, NONE_OPEN, PRIMES, Clock, E, T, choices, slow_counts,
    slow_day_at, slow_holders, slow_round, slow_tally, small_lots,
)

TWO = ((2, 0), (3, 0))


class DocExamples(unittest.TestCase):
    def test_holders_tally_meeting(self):
        told = [holders(T, 0), tally(T, 5), holders(T, -1), meeting(T, (0, 1)), meeting(T, (0, 2)), meeting(T, ())]
        self.assertEqual(told, [(0, 1), 2, (3,), (6, 0), None, (1, 0)])

    def test_next_and_at(self):
        told = [next_open(T, 0), next_open(TWO, 2), next_held(((5, 4),), 5)]
        self.assertEqual(told, [None, 5, 9])
        self.assertEqual([held_at(((5, 4),), 0, 3), open_at(TWO, 0, 4)], [14, 11])

    def test_counts(self):
        self.assertEqual(counts(T, 0, 12), (0, 8, 4, 0, 0, 0))
        self.assertEqual(day_shares(E), ((0, 1), (1, 1), (0, 1), (0, 1)))
        self.assertEqual(counts(TWO, 0, 10 ** 18), (333333333333333333, 500000000000000000, 166666666666666667))


class HoldersTest(unittest.TestCase):
    def test_day_by_day(self):
        for lot in small_lots() + EDGES + LONG:
            for day in list(range(-15, 15)) + FAR_DAYS:
                told = holders(lot, day)
                self.assertIs(type(told), tuple)
                self.assertEqual(told, slow_holders(lot, day))
                self.assertEqual(tally(lot, day), slow_tally(lot, day))

    def test_edges(self):
        self.assertEqual([holders((), 0), tally((), -5)], [(), 0])
        self.assertEqual(holders(((1, 0),) * MAX_WATCHES, -7), tuple(range(MAX_WATCHES)))
        self.assertEqual(holders(((2, 1), (2, 1)), -1), (0, 1))
        self.assertEqual(holders(((MAX_TURN, MAX_TURN - 1),), -1), (0,))
        self.assertEqual(holders(((MAX_TURN, MAX_TURN - 1),), 10 ** 18 - 1), (0,))
        self.assertEqual(tally(((MAX_TURN, 0),), 10 ** 18 - 1), 0)

    def test_somewhat_beyond_the_bounds(self):
        self.assertEqual(holders(((1, 0),) * (MAX_WATCHES + 1), 3), tuple(range(MAX_WATCHES + 1)))
        self.assertEqual(tally(((MAX_TURN + 1, 1),), MAX_TURN + 2), 1)
        self.assertEqual(tally(((MAX_TURN + 1, 1),), MAX_TURN + 1), 0)

    def test_by_name(self):
        self.assertEqual(holders(day=-1, lot=T), (3,))
        self.assertEqual(tally(day=5, lot=T), 2)


class MeetingTest(unittest.TestCase):
    def check(self, lot, some, told):
        """The meeting is right if it holds a day and the round of the watches, which is then its turn."""
        chosen = [lot[index] for index in some]
        self.assertIs(type(told), tuple)
        turn, first = told
        self.assertEqual(turn, slow_round(chosen))
        self.assertLessEqual(0, first)
        self.assertLess(first, turn)
        self.assertEqual(slow_tally(chosen, first), len(chosen))

    def test_day_by_day(self):
        for lot in small_lots(60, 8, 6):
            for some in choices(range(len(lot))):
                chosen = [lot[index] for index in some]
                days = [day for day in range(slow_round(chosen)) if slow_tally(chosen, day) == len(chosen)]
                self.assertLessEqual(len(days), 1)
                told = meeting(lot, some)
                self.assertEqual(told, (slow_round(chosen), days[0]) if days else None)

    def test_some_meet_exactly_if_each_two_do(self):
        source = random.Random(3)
        lots = small_lots(60, 9, 6)
        for _ in range(200):
            day = source.randrange(10 ** 9)
            turns = [source.choice([4, 6, 9, 10, 15, 10 ** 9, 6 ** 11, MAX_TURN]) for _ in range(5)]
            lots.append(tuple((turn, (day + source.choice([0, 0, 0, turn // 2])) % turn) for turn in turns))
        meet_in_twos = 0
        for lot in lots:
            for some in choices(range(len(lot))):
                twos = all(meeting(lot, two) is not None for two in itertools.combinations(some, 2))
                told = meeting(lot, some)
                self.assertEqual(told is not None, twos)
                if told is not None:
                    self.check(lot, some, told)
                    meet_in_twos += len(some) > 2
        self.assertGreater(meet_in_twos, 100)

    def test_edges(self):
        for lot in EDGES + LONG:
            self.assertEqual(meeting(lot, ()), (1, 0))
            for index, one in enumerate(lot):
                self.assertEqual(meeting(lot, (index,)), one)
        self.assertEqual(meeting(((2, 1), (2, 1)), (0, 1)), (2, 1))
        self.assertIsNone(meeting(((2, 0), (2, 1)), (0, 1)))
        self.assertEqual(meeting(((1, 0),) * MAX_WATCHES, tuple(range(MAX_WATCHES))), (1, 0))
        self.assertIsNone(meeting(((2, 0), (3, 1), (2, 1)), (0, 1, 2)))
        self.assertEqual(meeting(((2, 0), (3, 1), (2, 1)), (0, 1)), (6, 4))
        self.assertEqual(meeting(((4, 3), (6, 1)), (0, 1)), (12, 7))

    def test_all_indexes_of_long_lots(self):
        everything = tuple(range(MAX_WATCHES))
        with Clock(self):
            for lot in (COPRIME, PRIMES):
                told = meeting(lot, everything)
                self.check(lot, everything, told)
                self.assertEqual(holders(lot, told[1]), everything)
                self.assertEqual(holders(lot, told[1] - told[0]), everything)
        self.assertGreater(meeting(COPRIME, everything)[0], 10 ** 119)
        self.assertIsNone(meeting(HALVES, everything))
        self.check(HALVES, everything[1:], meeting(HALVES, everything[1:]))

    def test_by_name(self):
        self.assertEqual(meeting(some=(0, 1), lot=T), (6, 0))


class NextTest(unittest.TestCase):
    def test_day_by_day(self):
        for lot in small_lots():
            whole = slow_round(lot)
            for day in (0, 1, -1, -whole, 17, -29):
                held = [d for d in range(day, day + whole) if slow_tally(lot, d) > 0]
                left = [d for d in range(day, day + whole) if slow_tally(lot, d) == 0]
                self.assertEqual(next_held(lot, day), held[0] if held else None)
                self.assertEqual(next_open(lot, day), left[0] if left else None)

    def test_edges(self):
        self.assertIsNone(next_held((), 0))
        self.assertEqual(next_open((), -3), -3)
        self.assertEqual(next_held(((1, 0),), -3), -3)
        self.assertIsNone(next_open(((1, 0),), -3))
        self.assertIsNone(next_open(((1, 0),) * MAX_WATCHES, 0))
        self.assertEqual(next_held(((MAX_TURN, 0),), 1), MAX_TURN)
        self.assertEqual(next_held(((MAX_TURN, 0),), -1), 0)
        self.assertEqual(next_open(((MAX_TURN, 0),), 0), 1)
        self.assertEqual(next_open(((MAX_TURN, 0),) * MAX_WATCHES, MAX_TURN), MAX_TURN + 1)
        self.assertEqual(next_held(((MAX_TURN, MAX_TURN - 1), (MAX_TURN, 5)), 10 ** 18 - MAX_TURN + 6), 10 ** 18 - 1)
        self.assertEqual(next_open(E, 0), None)
        self.assertEqual(next_open(E[:2], -10), -9)

    def test_few_open_days(self):
        self.assertEqual(next_open(DOUBLED, 0), 1023)
        self.assertEqual(next_open(DOUBLED, 1023), 1023)
        self.assertEqual(next_open(DOUBLED, 1024), 2047)
        self.assertEqual(next_open(DOUBLED, -1), -1)
        self.assertEqual(next_open(DOUBLED, -1024), -1)
        self.assertEqual(next_open(LAST_OPEN, 0), 511)
        self.assertEqual(next_open(LAST_OPEN, 512), 1024 + 511)
        for day in FAR_DAYS:
            self.assertEqual(next_open(DOUBLED, day), day + (1023 - day) % 1024)
            self.assertIsNone(next_open(NONE_OPEN, day))

    def test_days_held_in_a_row_need_not_be_all_days(self):
        # Ten watches with great turns hold ten days in a row, and all the rest is open.
        row = tuple((turn, (7 + k) % turn) for k, (turn, _) in enumerate(COPRIME))
        self.assertEqual(next_open(row, 7), 17)
        self.assertEqual(next_open(row, 6), 6)
        self.assertEqual(next_held(row, 17), 7 + min(k + turn for k, (turn, _) in enumerate(row)))

    def test_by_name(self):
        self.assertEqual(next_held(day=5, lot=((5, 4),)), 9)
        self.assertEqual(next_open(day=2, lot=TWO), 5)


class AtTest(unittest.TestCase):
    def test_day_by_day(self):
        for lot in small_lots(80):
            for day in (0, -7, 12):
                for count in (1, 2, 3, 9, 50, 10 ** 18 - 1, 10 ** 18):
                    self.assertEqual(held_at(lot, day, count), slow_day_at(lot, day, count, False))
                    self.assertEqual(open_at(lot, day, count), slow_day_at(lot, day, count, True))

    def test_the_first_is_the_next(self):
        for lot in small_lots(80) + EDGES + LONG:
            for day in [0, -3] + FAR_DAYS:
                self.assertEqual(held_at(lot, day, 1), next_held(lot, day))
                self.assertEqual(open_at(lot, day, 1), next_open(lot, day))

    def test_edges(self):
        self.assertIsNone(held_at((), 0, 1))
        self.assertIsNone(held_at((), 0, 10 ** 18))
        self.assertEqual(open_at((), -5, 1), -5)
        self.assertEqual(open_at((), -5, 10 ** 18), 10 ** 18 - 6)
        self.assertEqual(held_at(((1, 0),), -5, 10 ** 18), 10 ** 18 - 6)
        self.assertIsNone(open_at(((1, 0),), 0, 10 ** 18))
        self.assertIsNone(open_at(((2, 0), (2, 1)), 0, 1))
        self.assertEqual(held_at(((MAX_TURN, 5),), 0, 10 ** 18), 5 + MAX_TURN * (10 ** 18 - 1))
        self.assertEqual(held_at(((MAX_TURN, 5),) * MAX_WATCHES, 6, 10 ** 18), 5 + MAX_TURN * 10 ** 18)
        self.assertEqual(open_at(((MAX_TURN, 0),), 0, MAX_TURN - 1), MAX_TURN - 1)
        self.assertEqual(open_at(((MAX_TURN, 0),), 0, MAX_TURN), MAX_TURN + 1)

    def test_few_open_days(self):
        for count in (1, 2, 10 ** 18):
            self.assertEqual(open_at(DOUBLED, 0, count), 1023 + 1024 * (count - 1))
            self.assertEqual(open_at(LAST_OPEN, 0, count), 511 + 1024 * (count - 1))
            self.assertIsNone(open_at(NONE_OPEN, 0, count))
            self.assertIsNone(open_at(HALVES, 0, count))
            self.assertEqual(held_at(NONE_OPEN, -9, count), count - 10)
            self.assertEqual(held_at(HALVES, -9, count), count - 10)

    def test_one_great_turn_among_few_open_days(self):
        # The great turn takes the first one of each many days that the others leave open.
        lot = DOUBLED[:9] + ((MAX_TURN, 511),)
        many = MAX_TURN // 512
        for count in (1, 2, many - 1, many, many + 1, 10 ** 18 - 1, 10 ** 18):
            rounds, place = divmod(count - 1, many - 1)
            self.assertEqual(open_at(lot, 0, count), 511 + 512 * (rounds * many + place + 1))

    def test_two_great_turns(self):
        one, other = 999999999989, 999999999961
        lot = ((one, 3), (other, 3))
        # Until the two meet again each of them holds its own days.
        days = sorted([3 + one * k for k in range(1, 300)] + [3 + other * k for k in range(1, 300)])
        for count in (1, 2, 17, 298):
            self.assertEqual(held_at(lot, 4, count), days[count - 1])
            self.assertEqual(held_at(lot, 3, count + 1), days[count - 1])
        self.assertEqual(held_at(lot, 4, one + other - 3), 3 + one * (other - 1))
        self.assertEqual(held_at(lot, 4, one + other - 2), 3 + other * (one - 1))
        self.assertEqual(held_at(lot, 4, one + other - 1), 3 + one * other)
        self.assertEqual(held_at(lot, 4, one + other), 3 + one * other + other)

    def test_far_days_of_long_lots(self):
        for lot in LONG:
            for day in (0, -5) + tuple(FAR_DAYS):
                for count in (1, 10 ** 9, 10 ** 18):
                    with self.subTest(lot=lot, day=day, count=count), Clock(self):
                        held, left = held_at(lot, day, count), open_at(lot, day, count)
                    self.assertGreater(slow_tally(lot, held), 0)
                    self.assertEqual(sum(counts(lot, day, held)[1:]), count - 1)
                    if left is not None:
                        self.assertEqual(slow_tally(lot, left), 0)
                        self.assertEqual(counts(lot, day, left)[0], count - 1)

    def test_from_a_day_that_was_returned(self):
        for lot in (COPRIME, PRIMES, T):
            far = held_at(lot, 0, 10 ** 18)
            self.assertEqual(next_held(lot, far), far)
            self.assertEqual(held_at(lot, far, 1), far)
            self.assertEqual(held_at(lot, 0, 10 ** 18 - 1), held_at(lot, held_at(lot, 0, 10 ** 17), 9 * 10 ** 17))
            self.assertGreater(held_at(lot, far, 2), far)
        far = open_at(COPRIME, 0, 10 ** 18)
        self.assertEqual([next_open(COPRIME, far), open_at(COPRIME, far, 1)], [far, far])

    def test_by_name(self):
        self.assertEqual(held_at(count=3, day=0, lot=((5, 4),)), 14)
        self.assertEqual(open_at(count=4, day=0, lot=TWO), 11)


class LongAnswersTest(unittest.TestCase):
    """Answers that take long to count are right if as many days ahead of them are open, or held, as counts tells."""

    # All of these hold the day 10 ** 12, and within 10 ** 22 days of it no two hold another one.
    ONE_DAY = tuple((10 ** 12 - k, k) for k in (0, 1, 3, 7, 9, 11, 17, 23, 27, 33))
    DENSE = tuple((turn, turn // 3) for turn in (64, 67, 71, 73, 79, 81, 83, 85, 89, 91))
    MIXED = ((2, 0), (3, 1), (5, 2), (7, 6), (64, 1)) + ONE_DAY[:5]

    def check(self, lot, day, count):
        told = open_at(lot, day, count)
        if told is not None:
            self.assertGreaterEqual(told, day)
            self.assertEqual(slow_tally(lot, told), 0)
            self.assertEqual(counts(lot, day, told)[0], count - 1)
        else:
            self.assertIsNone(next_open(lot, day))
        told = held_at(lot, day, count)
        if lot:
            self.assertGreaterEqual(told, day)
            self.assertGreater(slow_tally(lot, told), 0)
            self.assertEqual(sum(counts(lot, day, told)[1:]), count - 1)
        else:
            self.assertIsNone(told)

    def test_known_answers(self):
        self.assertEqual(open_at(self.ONE_DAY, 5, 10 ** 18), 1000000000010000002)
        self.assertEqual(open_at(self.ONE_DAY, 5, 1), 5)
        # Up to the day that all hold each has held but its first day, and five of these lie ahead of day 10.
        self.assertEqual(open_at(self.ONE_DAY, 10, 10 ** 12 - 10 - 5), 10 ** 12 - 1)
        self.assertEqual(open_at(self.ONE_DAY, 10, 10 ** 12 - 10 - 4), 10 ** 12 + 1)
        self.assertEqual([held_at(self.ONE_DAY, 10, 5), held_at(self.ONE_DAY, 10, 6)], [33, 10 ** 12])
        self.assertEqual(held_at(self.ONE_DAY, 10, 7), 2 * 10 ** 12 - 33)

    def test_days_and_counts_near_and_far(self):
        for lot in (self.ONE_DAY, self.DENSE, self.MIXED, PRIMES, COPRIME, DOUBLED, LAST_OPEN, HALVES):
            for day in (5, 10 ** 12, 10 ** 18 - 1, 1 - 10 ** 18):
                for count in (1, 2, 500, 1025, 10 ** 6, 10 ** 12 + 7, 10 ** 18):
                    self.check(lot, day, count)

    def test_any_lots(self):
        source = random.Random(110)
        for number in range(150):
            turns = [
                range(1, 13), range(2, 200), range(10 ** 4, 10 ** 5), range(10 ** 6, 10 ** 9),
                range(MAX_TURN - 50, MAX_TURN + 1), [2 ** k for k in range(39)], [1, 2, 3, 12, 60, 10 ** 6, MAX_TURN],
            ][number % 7]
            base = source.randrange(10 ** 13)
            lot = []
            for _ in range(source.randint(0, MAX_WATCHES)):
                turn = source.choice(turns)
                lot.append((turn, source.choice([base % turn, source.randrange(turn)])))
            day = source.choice([0, source.randint(-99, 99), base, source.randint(1 - 10 ** 18, 10 ** 18 - 1)])
            count = source.choice([1, 10, 1024, 10 ** 5, 10 ** 18, source.randint(1, 10 ** 18)])
            self.check(tuple(lot), day, count)

    def test_counts_that_follow_each_other(self):
        for lot in (self.DENSE, self.MIXED, PRIMES, ((2, 0), (3, 1), (7, 6), (MAX_TURN, 5))):
            for day in (0, -10 ** 17):
                for count in (1, 1000, 10 ** 6, 10 ** 18 - 12):
                    row = [open_at(lot, day, count + k) for k in range(12)]
                    for one, other in zip(row, row[1:]):
                        self.assertEqual(next_open(lot, one + 1), other)
                    row = [held_at(lot, day, count + k) for k in range(12)]
                    for one, other in zip(row, row[1:]):
                        self.assertEqual(next_held(lot, one + 1), other)

    def test_many_answers_in_a_short_time(self):
        for lot in (self.ONE_DAY, self.DENSE, self.MIXED, PRIMES, COPRIME):
            with self.subTest(lot), Clock(self):
                for k in range(60):
                    open_at(lot, k, 10 ** 18 - k)
                    open_at(lot, 10 ** 18 - k, 1 + k)
                    held_at(lot, k, 10 ** 18 - k)


class CountsTest(unittest.TestCase):
    def test_day_by_day(self):
        source = random.Random(4)
        for lot in small_lots():
            for _ in range(6):
                begin = source.randint(-60, 40)
                end = begin + source.choice([0, 1, 2, 7, 90])
                told = counts(lot, begin, end)
                self.assertIs(type(told), tuple)
                self.assertEqual(told, slow_counts(lot, begin, end))

    def test_whole_rounds(self):
        for lot in small_lots(60):
            whole = slow_round(lot)
            per_round = slow_counts(lot, 0, whole)
            rounds = 10 ** 18 // whole
            told = counts(lot, -3 * whole, rounds * whole)
            self.assertEqual(told, tuple(many * (rounds + 3) for many in per_round))

    def test_stretches(self):
        for lot in EDGES + LONG:
            for day in [0, 1, -1] + FAR_DAYS:
                self.assertEqual(counts(lot, day, day), (0,) * (len(lot) + 1))
                one = [0] * (len(lot) + 1)
                one[slow_tally(lot, day)] = 1
                self.assertEqual(counts(lot, day, day + 1), tuple(one))
            self.assertEqual(counts(lot, -40, 33), slow_counts(lot, -40, 33))

    def test_edges(self):
        most = 10 ** 18 - 1
        self.assertEqual(counts((), -most, most), (2 * most,))
        self.assertEqual(counts(((1, 0),), -most, most), (0, 2 * most))
        self.assertEqual(counts(((1, 0),) * MAX_WATCHES, -most, most), (0,) * MAX_WATCHES + (2 * most,))
        self.assertEqual(counts(((MAX_TURN, 0),), -most, most), (2 * most - 1999999, 1999999))
        self.assertEqual(counts(((MAX_TURN, 0),), 0, MAX_TURN), (MAX_TURN - 1, 1))
        self.assertEqual(counts(((MAX_TURN, 0),), 1, MAX_TURN), (MAX_TURN - 1, 0))
        self.assertEqual(counts(((2, 1), (2, 1)), -most, most), (most, 0, most))
        self.assertEqual(counts(((2, 0), (2, 1)), -most, most), (0, 2 * most, 0))
        self.assertEqual(counts(DOUBLED, 0, 1024), (1, 1023) + (0,) * 9)

    def test_long_lots(self):
        most = 10 ** 18 - 1
        far = FAR_DAYS[3]
        for lot in LONG:
            for begin, end in ((-most, most), (-most - 1, most), (0, 10 ** 18), (5, MAX_TURN), (0, far), (-most, far)):
                with self.subTest(lot=lot, begin=begin, end=end), Clock(self):
                    told = counts(lot, begin, end)
                self.assertEqual(len(told), len(lot) + 1)
                self.assertGreaterEqual(min(told), 0)
                self.assertEqual(sum(told), end - begin)
                for many in range(1, 4):
                    met_days = 0
                    for some in itertools.combinations(range(len(lot)), many):
                        met = meeting(lot, some)
                        if met is not None:
                            met_days += (end - 1 - met[1]) // met[0] - (begin - 1 - met[1]) // met[0]
                    self.assertEqual(sum(math.comb(k, many) * days for k, days in enumerate(told)), met_days)
                middle = (2 * begin + end) // 3
                parts = zip(counts(lot, begin, middle), counts(lot, middle, end))
                self.assertEqual(told, tuple(one + other for one, other in parts))

    def test_stretch_to_a_day_that_was_returned(self):
        far = held_at(((MAX_TURN, 5),), 0, 10 ** 18)
        self.assertEqual(counts(((MAX_TURN, 5),), 0, far), (far - 10 ** 18 + 1, 10 ** 18 - 1))
        self.assertEqual(counts(((MAX_TURN, 5),), far, far + 1), (0, 1))

    def test_by_name(self):
        self.assertEqual(counts(end=12, begin=0, lot=T), (0, 8, 4, 0, 0, 0))


class DaySharesTest(unittest.TestCase):
    def check(self, lot, told):
        self.assertIs(type(told), tuple)
        self.assertEqual(len(told), len(lot) + 1)
        for top, bottom in told:
            self.assertGreaterEqual(bottom, 1)
            self.assertEqual(math.gcd(top, bottom), 1)
        shares = [Fraction(*part) for part in told]
        self.assertEqual(sum(shares), 1)
        self.assertEqual(sum(k * part for k, part in enumerate(shares)), sum(Fraction(1, turn) for turn, _ in lot))
        return shares

    def test_day_by_day(self):
        for lot in small_lots():
            whole = slow_round(lot)
            told = day_shares(lot)
            self.check(lot, told)
            wanted = [Fraction(many, whole) for many in slow_counts(lot, 0, whole)]
            self.assertEqual(told, tuple((part.numerator, part.denominator) for part in wanted))

    def test_edges(self):
        self.assertEqual(day_shares(()), ((1, 1),))
        self.assertEqual(day_shares(((1, 0),)), ((0, 1), (1, 1)))
        self.assertEqual(day_shares(((MAX_TURN, 3),)), ((MAX_TURN - 1, MAX_TURN), (1, MAX_TURN)))
        self.assertEqual(day_shares(((4, 3), (4, 3))), ((3, 4), (0, 1), (1, 4)))
        self.assertEqual(day_shares(TWO), ((1, 3), (1, 2), (1, 6)))
        self.assertEqual(day_shares(((1, 0),) * MAX_WATCHES), ((0, 1),) * MAX_WATCHES + ((1, 1),))

    def test_long_lots(self):
        for lot in LONG:
            with self.subTest(lot), Clock(self):
                self.check(lot, day_shares(lot))

    def test_turns_without_a_common_divisor(self):
        for lot in (COPRIME, PRIMES):
            wanted = [Fraction(1)]
            for turn, _ in lot:
                longer = [Fraction(0)] * (len(wanted) + 1)
                for k, part in enumerate(wanted):
                    longer[k] += part * Fraction(turn - 1, turn)
                    longer[k + 1] += part * Fraction(1, turn)
                wanted = longer
            self.assertEqual(self.check(lot, day_shares(lot)), wanted)

    def test_by_name(self):
        self.assertEqual(day_shares(lot=E), ((0, 1), (1, 1), (0, 1), (0, 1)))


class BeyondTheBoundsTest(unittest.TestCase):
    def test_no_error_somewhat_beyond_the_bounds(self):
        lot = ((2, 0), (4, 1)) * 5 + ((MAX_TURN + 1, 7),)
        self.assertEqual(next_open(lot, 7), 11)
        self.assertEqual(next_held(lot, 7), 7)
        self.assertEqual(held_at(lot, 6, 2), 7)
        self.assertEqual(open_at(lot, 6, 10 ** 19 // MAX_TURN), 6 + 4 * (10 ** 19 // MAX_TURN) + 1)
        self.assertEqual(counts(lot, 0, 8), (1, 1, 0, 0, 0, 6, 0, 0, 0, 0, 0, 0))
        self.assertEqual(len(day_shares(lot)), 12)
        self.assertEqual(meeting(lot, (0, 10)), (2 * MAX_TURN + 2, MAX_TURN + 8))
        self.assertEqual(held_at(((3, 1),), 10 ** 19, 10 ** 18 + 1), 10 ** 19 + 3 * 10 ** 18)


class EqualCallsTest(unittest.TestCase):
    def test_equal_calls_get_equal_results(self):
        for lot in EDGES + LONG:
            again = tuple((turn, first) for turn, first in lot)
            for _ in range(2):
                for made in (holders, tally, next_held, next_open):
                    self.assertEqual(made(lot, -17), made(again, -17))
                for made in (held_at, open_at, counts):
                    self.assertEqual(made(lot, 3, 99), made(again, 3, 99))
                self.assertEqual(day_shares(lot), day_shares(again))
            self.assertEqual(again, lot)


if __name__ == "__main__":
    unittest.main()
