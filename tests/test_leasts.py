"""[F1], [F2], [F3]: module leasts; [A2] (e)."""

import random
import unittest

from daywatches.bounds import MAX_SEEN, MAX_TURN, MAX_WATCHES
from daywatches.covers import is_held, open_day, same_days
from daywatches.days import holders
from daywatches.errors import Open, TooMany
from daywatches.leasts import (
    fewest_rest, least_breaches, least_rests, lone_day, needless, trimmed, trimmed_lot,
)
from tests.lots import (
    COPRIME, DOUBLED, EDGES, HALVES, LAST_OPEN, LONG, NONE_OPEN, PRIMES, Clock, E, T, choices, grown_lots, kept,
    slow_round, slow_tallies, slow_tally, small_lots,
)

D = ((2, 0), (4, 1), (4, 3), (2, 1))

# Two lots one behind the other, of which one would do.
TWICE = ((2, 0), (2, 1), (3, 0), (3, 1), (3, 2))


def slow_without(lot, index):
    return lot[:index] + lot[index + 1:]


def slow_lone_days(lot, index):
    """The days of a round that this watch alone holds."""
    return [
        day for day in range(slow_round(lot)) if slow_tally(lot, day) == 1 and slow_tally((lot[index],), day) == 1
    ]


def slow_trimmed(lot):
    """The indexes that stay if each watch that is needless is left out, from the last one on."""
    stay = list(range(len(lot)))
    for index in range(len(lot) - 1, -1, -1):
        left = kept(lot, stay)
        if not slow_lone_days(left, stay.index(index)):
            stay.remove(index)
    return tuple(stay)


def held_lots(many, most, greatest, seed):
    """Lots that leave no day open, the same at each run."""
    source = random.Random(seed)
    lots = []
    while len(lots) < many:
        turns = [source.choice([2, 2, 3, 3, 4, 4, 6, 6, 8, 12, greatest]) for _ in range(source.randint(1, most))]
        lot = tuple((turn, source.randrange(turn)) for turn in turns)
        if slow_round(lot) <= 360 and min(slow_tallies(lot)) > 0:
            lots.append(lot)
    return lots


def part_of(some, others):
    return set(some) < set(others)


def least_ones(many):
    """Those that have no other one as a part, ascending."""
    return tuple(sorted(some for some in many if not any(part_of(other, some) for other in many)))


def slow_rests_and_breaches(lot):
    """All least rests and all least breaches."""
    held_by = [
        {index for index in range(len(lot)) if slow_tally((lot[index],), day)} for day in range(slow_round(lot))
    ]
    rests, breaches = [], []
    for some in choices(range(len(lot))):
        if all(held.intersection(some) for held in held_by):
            rests.append(some)
        if any(held.issubset(some) for held in held_by):
            breaches.append(some)
    return least_ones(rests), least_ones(breaches)


class DocExamples(unittest.TestCase):
    def test_one_watch(self):
        told = [needless(D), lone_day(D, 1), lone_day(D, 0) % 2, trimmed(D), trimmed_lot(D) == E, needless(E)]
        self.assertEqual(told, [(1, 2, 3), None, 0, (0, 1, 2), True, ()])

    def test_rests_and_breaches(self):
        told = [least_rests(D), least_breaches(D), fewest_rest(D)]
        self.assertEqual(told, [((0, 1, 2), (0, 3)), ((0,), (1, 3), (2, 3)), (0, 3)])

    def test_open(self):
        with self.assertRaises(Open) as caught:
            fewest_rest(((2, 0),))
        self.assertEqual(caught.exception.day, 1)


class NeedlessTest(unittest.TestCase):
    def test_day_by_day(self):
        found = set()
        for lot in small_lots() + small_lots(120, 5, seed=41) + held_lots(60, 10, 5, 42):
            wanted = []
            for index in range(len(lot)):
                days = slow_lone_days(lot, index)
                told = lone_day(lot, index)
                if days:
                    self.assertIs(type(told), int)
                    self.assertEqual(holders(lot, told), (index,))
                    self.assertIn(told % slow_round(lot), days)
                else:
                    self.assertIsNone(told)
                    wanted.append(index)
                self.assertEqual(same_days(lot, slow_without(lot, index)), not days)
            self.assertEqual(needless(lot), tuple(wanted))
            found.add(len(wanted))
        self.assertEqual(found, set(range(11)))

    def test_edges(self):
        self.assertEqual(needless(()), ())
        self.assertEqual(needless(((1, 0),)), ())
        self.assertEqual(needless(((1, 0),) * MAX_WATCHES), tuple(range(MAX_WATCHES)))
        self.assertEqual(needless(((5, 2), (5, 2))), (0, 1))
        self.assertEqual(needless(((5, 2), (5, 3))), ())
        self.assertEqual(needless(((1, 0), (MAX_TURN, 7))), (1,))
        self.assertEqual(needless(((MAX_TURN, 7), (MAX_TURN, 7), (MAX_TURN, 8))), (0, 1))
        self.assertEqual(needless(T), ())
        self.assertEqual([lone_day(((1, 0),), 0) is None, lone_day(((1, 0), (1, 0)), 0)], [False, None])
        self.assertEqual([needless(DOUBLED), needless(NONE_OPEN), needless(HALVES)], [(), (), tuple(range(2, 10))])
        self.assertEqual(needless(LAST_OPEN), ())
        self.assertEqual(needless(NONE_OPEN[:9] + ((256, 255),)), (8,))

    def test_lone_days_once_in_1024(self):
        # The first of these holds but one day of its round by itself, the last one.
        lot = ((1, 0),) + DOUBLED[:9]
        self.assertEqual(lone_day(lot, 0) % 512, 511)
        self.assertEqual(needless(lot), tuple(range(1, 10)))
        lot = DOUBLED[:9] + ((4, 3),)
        self.assertEqual([lone_day(lot, 9) % 512, lone_day(lot, 8)], [511, None])

    def test_long_lots(self):
        for lot in LONG:
            with self.subTest(lot), Clock(self):
                told = needless(lot)
                days = [lone_day(lot, index) for index in range(len(lot))]
            for index, day in enumerate(days):
                self.assertEqual(day is None, index in told)
                if day is not None:
                    self.assertEqual(holders(lot, day), (index,))
        self.assertEqual([needless(COPRIME), needless(PRIMES)], [(), ()])
        self.assertEqual(needless(COPRIME[:8] + ((2, 0), (2, 1))), tuple(range(8)))

    def test_by_name(self):
        self.assertEqual(needless(lot=D), (1, 2, 3))
        self.assertEqual(lone_day(index=1, lot=D), None)


class TrimmedTest(unittest.TestCase):
    def check(self, lot, wanted):
        self.assertEqual(trimmed(lot), wanted)
        self.assertEqual(trimmed_lot(lot), kept(lot, wanted))

    def test_day_by_day(self):
        found = set()
        for lot in small_lots() + small_lots(120, 5, seed=43) + held_lots(60, 10, 5, 44):
            self.check(lot, slow_trimmed(lot))
            left = trimmed_lot(lot)
            self.assertEqual(needless(left), ())
            self.assertIs(same_days(lot, left), True)
            found.add(len(lot) - len(left))
        self.assertGreater(len(found), 6)

    def test_edges(self):
        self.check((), ())
        self.check(((1, 0),), (0,))
        self.check(((1, 0),) * MAX_WATCHES, (0,))
        self.check(((2, 1), (1, 0), (2, 1)), (1,))
        self.check(((2, 1), (2, 0), (1, 0)), (0, 1))
        self.check(TWICE, (0, 1))
        self.check(TWICE[::-1], (0, 1, 2))
        self.check(((3, 0), (2, 0), (3, 1), (2, 1), (3, 2)), (1, 3))
        self.check(HALVES, (0, 1))
        self.check(HALVES[::-1], (8, 9))
        self.check(NONE_OPEN, tuple(range(10)))
        self.check(((MAX_TURN, 3), (MAX_TURN, 3)), (0,))
        self.check(COPRIME[:9] + ((1, 0),), (9,))

    def test_short_time(self):
        for lot in LONG + [tuple((turn, 0) for turn in range(51, 61)), ((2, 0), (4, 2)) * 5]:
            with self.subTest(lot), Clock(self):
                left = trimmed_lot(lot)
            self.assertIs(same_days(lot, left), True)
        self.assertEqual(trimmed(((2, 0), (4, 2)) * 5), (0,))
        self.assertEqual(trimmed(((4, 2), (2, 0)) * 5), (1,))

    def test_by_name(self):
        self.assertEqual([trimmed(lot=D), trimmed_lot(lot=D)], [(0, 1, 2), E])


class RestsTest(unittest.TestCase):
    def check(self, lot):
        rests, breaches = slow_rests_and_breaches(lot)
        self.assertEqual(least_rests(lot), rests)
        self.assertEqual(least_breaches(lot), breaches)
        self.assertEqual(fewest_rest(lot), min(rests, key=lambda some: (len(some), some)))
        for rest in rests:
            self.assertIs(is_held(kept(lot, rest), 1), True)
            for breach in breaches:
                self.assertTrue(set(rest) & set(breach))
        return len(rests)

    def test_day_by_day(self):
        lots = held_lots(150, MAX_SEEN, 5, 45) + [lot for lot in grown_lots(40, 8) if slow_round(lot) < 200]
        found = {self.check(lot) for lot in lots}
        self.assertGreater(len(found), 5)

    def test_edges(self):
        self.check(((1, 0),))
        self.assertEqual([least_rests(((1, 0),)), least_breaches(((1, 0),))], [((0,),), ((0,),)])
        ones = ((1, 0),) * MAX_SEEN
        self.check(ones)
        self.assertEqual(least_rests(ones), tuple((k,) for k in range(8)))
        self.assertEqual([least_breaches(ones), fewest_rest(ones)], [(tuple(range(8)),), (0,)])
        self.check(((2, 0), (2, 1)) * 4)
        self.assertEqual(len(least_rests(((2, 0), (2, 1)) * 4)), 16)
        self.check(TWICE)
        self.assertEqual([least_rests(TWICE), fewest_rest(TWICE)], [((0, 1), (2, 3, 4)), (0, 1)])
        self.check(TWICE[::-1])
        self.assertEqual([least_rests(TWICE[::-1]), fewest_rest(TWICE[::-1])], [((0, 1, 2), (3, 4)), (3, 4)])
        self.check(DOUBLED[:7] + ((128, 127),))
        self.check(T + ((2, 1), (3, 1)))

    def test_the_first_of_those_with_the_fewest(self):
        lot = ((3, 0), (2, 0), (3, 1), (2, 1), (3, 2), (2, 1))
        self.check(lot)
        self.assertEqual(least_rests(lot), ((0, 2, 4), (1, 3), (1, 5)))
        self.assertEqual(fewest_rest(lot), (1, 3))

    def test_great_turns(self):
        lot = COPRIME[:4] + ((2, 1), (4, 0), (4, 2), (2, 1))
        with Clock(self):
            told = [least_rests(lot), least_breaches(lot), fewest_rest(lot)]
        self.assertEqual(told, [((4, 5, 6), (5, 6, 7)), ((4, 7), (5,), (6,)), (4, 5, 6)])
        # The great watch stands in a breach only with those that hold the same days.
        turn = MAX_TURN // 2
        lot = ((2, 0), (2 * turn, 1), (2, 1), (1, 0))
        self.assertEqual(least_rests(lot), ((0, 2), (3,)))
        self.assertEqual(least_breaches(lot), ((0, 3), (2, 3)))

    def test_open_days(self):
        cases = [
            ((), 0), (((2, 0),), 1), (((MAX_TURN, 0),), 1), (DOUBLED[:8], 255), (LAST_OPEN[:8], 255),
            (DOUBLED, 1023), (LAST_OPEN, 511), (COPRIME, 0), (((2, 1),) * 9, 0), (((2, 0), (2, 0)) * 5, 1),
        ]
        for lot, day in cases:
            for made in (least_rests, least_breaches, fewest_rest):
                for _ in range(2):
                    with self.assertRaises(Open) as caught:
                        made(lot)
                    self.assertEqual(caught.exception.day, day)
            self.assertEqual(open_day(lot, 1), day)

    def test_too_many(self):
        for lot in (((1, 0),) * 9, NONE_OPEN, HALVES, ((2, 0), (2, 1)) * 5, T + E + ((1, 0),)):
            for made in (least_rests, least_breaches, fewest_rest):
                for _ in range(2):
                    with self.assertRaises(TooMany) as caught:
                        made(lot)
                    self.assertEqual(caught.exception.limit, 8)

    def test_short_time(self):
        lots = held_lots(20, MAX_SEEN, 60, 46)
        lots += [((1, 0),) * 8, HALVES[:8], T + E, ((3, 0), (3, 1), (3, 2), (2, 0)) * 2]
        for lot in lots:
            with self.subTest(lot), Clock(self):
                self.assertEqual(min(map(len, least_rests(lot))), len(fewest_rest(lot)))
                self.assertGreater(len(least_breaches(lot)), 0)

    def test_by_name(self):
        self.assertEqual(least_rests(lot=D), ((0, 1, 2), (0, 3)))
        self.assertEqual(least_breaches(lot=D), ((0,), (1, 3), (2, 3)))
        self.assertEqual(fewest_rest(lot=D), (0, 3))


class EqualCallsTest(unittest.TestCase):
    def test_equal_calls_get_equal_results(self):
        for lot in EDGES + LONG + [D]:
            again = tuple((turn, first) for turn, first in lot)
            for _ in range(2):
                for made in (needless, trimmed, trimmed_lot):
                    self.assertEqual(made(lot), made(again))
                for index in range(len(lot)):
                    self.assertEqual(lone_day(lot, index), lone_day(again, index))
                if is_held(lot, 1) and len(lot) <= 8:
                    self.assertEqual(least_rests(lot), least_rests(again))
            self.assertEqual(again, lot)


if __name__ == "__main__":
    unittest.main()
