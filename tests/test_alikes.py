"""[G1], [G2], [G3]: module alikes; [A2] (f), (g)."""

import math
import random
import unittest
from fractions import Fraction

from daywatches.alikes import alike, fractions_of, is_merged, merged, parting_day, told_back
from daywatches.bounds import MAX_LITTLE, MAX_ROUND, MAX_TURN, MAX_WATCHES
from daywatches.days import tally
from daywatches.errors import TooLong
from daywatches.forms import lot_error
from tests.lots import (
    COPRIME, EDGES, LONG, PRIMES, Clock, E, T, grown_lots, slow_round, slow_split, slow_tallies, slow_tally,
    small_lots,
)

TENS = tuple((10, k) for k in range(10))
GREATEST = tuple((turn, turn - 1) for turn in range(60, 50, -1))


def is_little_enough(lot):
    return all(turn <= MAX_LITTLE for turn, _ in lot)


def slow_fractions(lot):
    """All fractions from 0 on below 1 whose bottom divides a turn."""
    found = {Fraction(k, bottom) for turn, _ in lot for bottom in range(1, turn + 1) if turn % bottom == 0
             for k in range(bottom)}
    return tuple((part.numerator, part.denominator) for part in sorted(found))


def slow_parting_day(one, other):
    whole = math.lcm(slow_round(one), slow_round(other))
    for day in range(whole):
        if slow_tally(one, day) != slow_tally(other, day):
            return day
    return None


def slow_mergings(lot):
    """All lots that come of this one by merging once."""
    found = set()
    for turn, first in set(lot):
        for parts in range(2, len(lot) + 1):
            if turn % parts:
                continue
            short = turn // parts
            makers = [(turn, first % short + k * short) for k in range(parts)]
            if all(maker in lot for maker in makers):
                # Equal watches are alike, so which of them goes in matters for the places only.
                spots = [[place for place, one in enumerate(lot) if one == maker] for maker in makers]
                for chosen in all_of_each(spots):
                    place = min(chosen)
                    left = [one for k, one in enumerate(lot) if k == place or k not in chosen]
                    left[place] = (short, first % short)
                    found.add(tuple(left))
    return found


def all_of_each(spots):
    if not spots:
        yield []
        return
    for spot in spots[0]:
        for rest in all_of_each(spots[1:]):
            yield [spot] + rest


def slow_merged(lot):
    """All lots that come of this one by merging as long as something can be merged."""
    found, waiting, seen = set(), [lot], {lot}
    while waiting:
        now = waiting.pop()
        more = slow_mergings(now)
        if not more:
            found.add(now)
        for later in more - seen:
            seen.add(later)
            waiting.append(later)
    return found


def little_lots(many, most, turns, seed):
    """Lots with turns of the list, the same at each run."""
    source = random.Random(seed)
    return [
        tuple((turn, source.randrange(turn)) for turn in source.choices(turns, k=source.randint(0, most)))
        for _ in range(many)
    ]


def unlike_lots(many, whole, seed):
    """Lots with unlike turns that divide the number, in ascending order of turns."""
    source = random.Random(seed)
    turns = [turn for turn in range(1, MAX_LITTLE + 1) if whole % turn == 0]
    lots = []
    for _ in range(many):
        chosen = sorted(source.sample(turns, source.randint(0, min(len(turns), MAX_WATCHES))))
        lots.append(tuple((turn, source.randrange(turn)) for turn in chosen))
    return lots


class DocExamples(unittest.TestCase):
    def test_alike(self):
        told = [fractions_of(((4, 1), (6, 0))), alike(E, ((1, 0),)), parting_day(E, T), alike((), ())]
        wanted = ((0, 1), (1, 6), (1, 4), (1, 3), (1, 2), (2, 3), (3, 4), (5, 6))
        self.assertEqual(told, [wanted, True, 0, True])

    def test_told_back_and_merged(self):
        told = [told_back((1, 0, 1, 1, 1, 0)), told_back((2, 0)), told_back((0, 1, 1, 0)), merged(E), is_merged(T)]
        self.assertEqual(told, [((2, 0), (6, 3)), None, None, ((1, 0),), True])
        self.assertEqual([told_back((0,)), told_back((2, 0, 1, 1, 1, 0))], [(), ((2, 0), (3, 0))])


class FractionsTest(unittest.TestCase):
    def test_all(self):
        for lot in small_lots() + little_lots(60, 10, range(1, 61), 50) + [PRIMES, TENS, GREATEST, T, E]:
            told = fractions_of(lot)
            self.assertIs(type(told), tuple)
            self.assertEqual(told, slow_fractions(lot))
            for part in told:
                self.assertIs(type(part), tuple)

    def test_edges(self):
        self.assertEqual(fractions_of(()), ())
        self.assertEqual(fractions_of(((1, 0),)), ((0, 1),))
        self.assertEqual(fractions_of(((1, 0),) * MAX_WATCHES), ((0, 1),))
        self.assertEqual(fractions_of(((2, 1), (2, 1))), ((0, 1), (1, 2)))
        self.assertEqual(fractions_of(((3, 2),)), ((0, 1), (1, 3), (2, 3)))
        self.assertEqual(len(fractions_of(((MAX_LITTLE, 59),))), 60)
        with Clock(self):
            self.assertEqual(fractions_of(GREATEST), slow_fractions(GREATEST))
        self.assertEqual(fractions_of(lot=((2, 0),)), ((0, 1), (1, 2)))


class AlikeTest(unittest.TestCase):
    def check(self, one, other, wanted):
        told = parting_day(one, other)
        self.assertEqual(told, wanted)
        self.assertEqual(parting_day(other, one), wanted)
        self.assertIs(alike(one, other), wanted is None)
        self.assertIs(alike(other, one), wanted is None)
        if wanted is not None:
            self.assertLess(wanted, len(slow_fractions(one + other)))
        return wanted is None

    def test_day_by_day(self):
        source = random.Random(51)
        lots = small_lots(80, 8, 6, 52) + little_lots(80, 4, (1, 2, 3, 4), 53) + grown_lots(20, 8, 12)
        told = []
        for _ in range(1500):
            one, other = source.choice(lots), source.choice(lots)
            if source.random() < 0.4 and one:
                index, parts = source.randrange(len(one)), source.choice([2, 3])
                other = slow_split(one, index, parts)
                if source.random() < 0.5:
                    other = other[:-1] + ((other[-1][0], source.randrange(other[-1][0])),)
                other = tuple(source.sample(other, len(other)))
            if math.lcm(slow_round(one), slow_round(other)) <= 2520:
                told.append(self.check(one, other, slow_parting_day(one, other)))
        self.assertGreater(min(told.count(True), told.count(False)), 200)

    def test_edges(self):
        self.check((), (), None)
        self.check((), ((1, 0),), 0)
        self.check((), ((MAX_LITTLE, MAX_LITTLE - 1),), 59)
        self.check(((1, 0),), ((1, 0),), None)
        self.check(((1, 0),) * 10, ((1, 0),) * 9, 0)
        self.check(((1, 0),) * 10, ((2, 0), (2, 1)) * 5, 0)
        self.check(((1, 0),) * 5, ((2, 0), (2, 1)) * 5, None)
        self.check(TENS, ((1, 0),), None)
        self.check(TENS, TENS[::-1], None)
        self.check(TENS[:9], TENS[:8] + TENS[9:], 8)
        self.check(((2, 0), (2, 0)), ((2, 0),), 0)
        self.check(((2, 0), (3, 0)), ((2, 0), (3, 0), (6, 5)), 5)

    def test_lots_that_part_late_only(self):
        self.check(((60, 0), (60, 59)), ((60, 0), (60, 58)), 58)
        self.check(((60, 59),), (), 59)
        for turns in ((4, 6), (2, 3, 5), (8, 12), (59, 60)):
            one = tuple((turn, turn - 1) for turn in turns)
            self.check(one, one[::-1], None)
            for first in range(turns[-1] - 1):
                self.check(one, one[:-1] + ((turns[-1], first),), first)

    def test_lots_that_part_on_the_last_day_that_matters(self):
        one = ((2, 1), (3, 2), (4, 3))
        for turn in (2, 3, 4):
            held = ((turn, turn - 1),)
            self.check(held, (), turn - 1)
            self.check(one, one + held, turn - 1)
        self.check(((2, 0), (2, 1), (60, 59)), ((1, 0),), 59)

    def test_as_many_days_in_a_row_as_there_are_fractions(self):
        source = random.Random(54)
        lots = small_lots(120, 6, 4, 55) + little_lots(60, 3, (1, 2, 3, 4, 6), 56)
        told = {True: 0, False: 0}
        for _ in range(1500):
            one, other = source.choice(lots), source.choice(lots)
            many = len(slow_fractions(one + other))
            wanted = alike(one, other)
            told[wanted] += 1
            for begin in (0, source.randrange(-99, 99), source.randrange(10 ** 17)):
                same = all(tally(one, day) == tally(other, day) for day in range(begin, begin + many))
                self.assertIs(same, wanted)
        self.assertGreater(min(told.values()), 20)

    def test_lots_with_unlike_turns(self):
        source = random.Random(57)
        lots = [lot for whole in (6, 12, 24, 60) for lot in unlike_lots(150, whole, whole)]
        for _ in range(3000):
            one, other = source.choice(lots), source.choice(lots)
            self.assertIs(alike(one, other), sorted(one) == sorted(other))
        for lot in lots:
            self.assertIs(alike(lot, tuple(source.sample(lot, len(lot)))), True)

    def test_short_time(self):
        with Clock(self):
            self.check(GREATEST, GREATEST[::-1], None)
            self.check(GREATEST, PRIMES, min(d for d in range(60) if slow_tally(GREATEST, d) != slow_tally(PRIMES, d)))
            other = GREATEST[:9] + ((51, 49),)
            self.check(GREATEST, other, 49)

    def test_by_name(self):
        self.assertIs(alike(other=((1, 0),), one=E), True)
        self.assertEqual(parting_day(other=((1, 0),), one=T), 0)


class TooLongTest(unittest.TestCase):
    def test_turns_just_little_and_one_beyond(self):
        little, great = ((MAX_LITTLE, 59),), ((MAX_LITTLE + 1, 60),)
        for made in (fractions_of, merged, is_merged):
            made(little)
            for lot, turn in ((great, 61), (little + great + ((99, 0),), 61), (COPRIME, MAX_TURN),
                              (T + ((MAX_TURN, 1), (61, 0)), MAX_TURN), (((2, 0), (2, 1)) + great, 61)):
                for _ in range(2):
                    with self.assertRaises(TooLong) as caught:
                        made(lot)
                    self.assertEqual(caught.exception.turn, turn)

    def test_of_one_then_of_other(self):
        little, great, greater = ((MAX_LITTLE, 59),), ((61, 60),), ((2, 0), (62, 3), (63, 1))
        cases = [
            (great, little, 61), (little, great, 61), (great, greater, 61), (greater, great, 62), (greater, (), 62),
            ((), greater, 62), (T, COPRIME, MAX_TURN), (COPRIME, great, MAX_TURN), (great, great, 61),
        ]
        for made in (alike, parting_day):
            made(little, little)
            for one, other, turn in cases:
                for _ in range(2):
                    with self.assertRaises(TooLong) as caught:
                        made(one, other)
                    self.assertEqual(caught.exception.turn, turn)


class ToldBackTest(unittest.TestCase):
    def check(self, tallies, wanted):
        told = told_back(tallies)
        self.assertEqual(told, wanted)
        if told is not None:
            self.assertIsNone(lot_error(told))

    def test_lots_with_unlike_turns(self):
        for whole in (1, 2, 3, 4, 6, 12, 30, 36, 60, 61, 120, 210):
            for lot in unlike_lots(25, whole, whole):
                tallies = tuple(slow_tallies(lot, whole))
                self.check(tallies, lot)
                self.check(tallies * 2, lot)

    def test_all_tallies_of_few_days(self):
        for whole in range(1, 7):
            by_tallies = {}
            turns = [turn for turn in range(1, whole + 1) if whole % turn == 0]

            def go_on(lot, later):
                by_tallies[tuple(slow_tallies(lot, whole))] = lot
                for place, turn in enumerate(later):
                    for first in range(turn):
                        go_on(lot + ((turn, first),), later[place + 1:])

            go_on((), turns)
            for number in range(4 ** whole):
                tallies = tuple(number // 4 ** place % 4 for place in range(whole))
                self.check(tallies, by_tallies.get(tallies))

    def test_tallies_that_are_a_little_wrong(self):
        source = random.Random(58)
        for whole in (6, 12, 24, 60, 90):
            for lot in unlike_lots(25, whole, whole + 1):
                tallies = slow_tallies(lot, whole)
                day = source.randrange(whole)
                tallies[day] += source.choice([1, -1]) if tallies[day] else 1
                told = told_back(tuple(tallies))
                if told is not None:
                    self.assertEqual(slow_tallies(told, whole), tallies)
                    self.assertNotEqual(told, lot)
                    self.assertEqual(len({turn for turn, _ in told}), len(told))

    def test_tallies_of_lots_with_equal_turns(self):
        self.check((2, 0), None)
        self.check((2, 2), None)
        self.check((10,), None)
        self.check((2,), None)
        self.check((1, 1), ((1, 0),))
        self.check((1, 1, 0), None)
        self.check((2, 1), ((1, 0), (2, 0)))
        self.check((1, 1, 0, 0), None)
        self.check((1, 0, 0, 1), None)
        self.check((10, 0), None)

    def test_edges(self):
        self.check((0,), ())
        self.check((1,), ((1, 0),))
        self.check((0,) * MAX_ROUND, ())
        self.check((1,) * MAX_ROUND, ((1, 0),))
        self.check((0, 0, 1), ((3, 2),))
        self.check((0,) * 59 + (1,), ((60, 59),))
        self.check((0,) * 60 + (1,), None)
        self.check((0,) * 61 + (1,), None)
        self.check((1,) + (0,) * 119, None)
        self.check(((1,) + (0,) * 59) * 42, ((60, 0),))
        self.check((1,) + (0,) * 2519, None)
        self.check((MAX_WATCHES,) * MAX_ROUND, None)
        self.check((MAX_WATCHES,) + (0,) * 2519, None)
        self.check((0, 1) * 3, ((2, 1),))
        self.check((0, 1, 0), ((3, 1),))

    def test_turns_divide_the_number_of_tallies(self):
        # A watch with the turn 4 has these tallies on six days, but 4 does not divide 6.
        self.check((1, 0, 0, 0, 1, 0), None)
        self.check((1, 0, 0, 0) * 3, ((4, 0),))

    def test_ten_watches_and_one_more(self):
        turns = [turn for turn in range(2, 61) if 2520 % turn == 0]
        for begin in (0, 5, len(turns) - 11):
            eleven = tuple((turn, turn // 2) for turn in turns[begin:begin + 11])
            tallies = tuple(slow_tallies(eleven, MAX_ROUND))
            self.assertLessEqual(max(tallies), MAX_WATCHES)
            self.check(tallies, None)
            for ten in (eleven[:10], eleven[1:], eleven[:4] + eleven[5:]):
                with Clock(self):
                    self.check(tuple(slow_tallies(ten, MAX_ROUND)), ten)

    def test_whole_rounds(self):
        for lot in unlike_lots(12, MAX_ROUND, 59):
            tallies = tuple(slow_tallies(lot, MAX_ROUND))
            with self.subTest(lot), Clock(self):
                self.check(tallies, lot)
                self.check(tallies[:-1] + (tallies[-1] + 1,), None)

    def test_by_name(self):
        self.assertEqual(told_back(tallies=(0, 1)), ((2, 1),))


class MergedTest(unittest.TestCase):
    def check(self, lot):
        told = merged(lot)
        self.assertIsNone(lot_error(told))
        self.assertIn(told, slow_merged(lot))
        self.assertIs(is_merged(lot), told == lot)
        self.assertIs(is_merged(lot), not slow_mergings(lot))
        self.assertIs(is_merged(told), True)
        self.assertEqual(merged(told), told)
        self.assertIs(alike(lot, told), True)
        return told

    def test_small_lots(self):
        lots = small_lots(150, 6, 7, 60) + little_lots(150, 8, (1, 2, 2, 3, 4, 4, 6), 61)
        fewer = {len(lot) - len(self.check(lot)) for lot in lots}
        self.assertGreater(len(fewer), 3)

    def test_lots_that_come_of_splits(self):
        for lot in grown_lots(60, 10, 60, 62):
            self.assertEqual(self.check(lot), ((1, 0),))
        source = random.Random(63)
        for lot in little_lots(60, 5, (1, 2, 3, 5), 64):
            for _ in range(2):
                if lot:
                    index = source.randrange(len(lot))
                    lot = slow_split(lot, index, 2)
            self.check(tuple(source.sample(lot, len(lot))))

    def test_edges(self):
        self.assertEqual(self.check(()), ())
        self.assertEqual(self.check(((1, 0),)), ((1, 0),))
        self.assertEqual(self.check(((1, 0),) * MAX_WATCHES), ((1, 0),) * MAX_WATCHES)
        self.assertEqual(self.check(TENS), ((1, 0),))
        self.assertEqual(self.check(TENS[:9]), ((5, 0), (5, 1), (5, 2), (5, 3), (10, 4)))
        self.assertEqual(self.check(tuple((7, k) for k in range(6))), tuple((7, k) for k in range(6)))
        self.assertEqual(self.check(((2, 0), (2, 1)) * 5), ((1, 0),) * 5)
        self.assertEqual(self.check(((2, 0), (2, 0))), ((2, 0), (2, 0)))
        self.assertEqual(self.check(((60, 29), (60, 59))), ((30, 29),))
        self.assertEqual(self.check(((60, 29), (60, 58))), ((60, 29), (60, 58)))
        self.assertEqual(merged(GREATEST), GREATEST)
        self.assertEqual(merged(tuple((60, 6 * k) for k in range(10))), ((6, 0),))
        self.assertEqual(merged(tuple((60, 6 * k + 5) for k in range(9, -1, -1))), ((6, 5),))

    def test_at_the_place_of_the_first_of_them(self):
        self.assertEqual(self.check(((3, 0), (4, 3), (5, 1), (4, 1), (7, 2))), ((3, 0), (2, 1), (5, 1), (7, 2)))
        self.assertEqual(self.check(((6, 5), (5, 1), (6, 1), (5, 2), (6, 3))), ((2, 1), (5, 1), (5, 2)))
        self.assertEqual(self.check(((5, 1), (4, 2), (3, 1), (4, 0))), ((5, 1), (2, 0), (3, 1)))
        self.assertEqual(self.check(((4, 1), (2, 0), (4, 3))), ((1, 0),))

    def test_more_than_one_way(self):
        sixes = tuple((6, k) for k in range(6))
        self.check(sixes)
        self.check(sixes[:5])
        self.check(((6, 0), (6, 2), (6, 4), (6, 3), (6, 1)))
        self.check(((6, 0), (6, 2), (6, 4), (6, 3)))
        self.check(((4, 0), (4, 2), (4, 0), (4, 1), (4, 3)))
        self.check(((12, 0), (12, 6), (12, 4), (12, 8), (12, 3), (12, 9)))

    def test_short_time(self):
        lots = [TENS, GREATEST, tuple((60, k) for k in range(10)), ((60, 0), (60, 30)) * 5, PRIMES]
        for lot in lots:
            with self.subTest(lot), Clock(self):
                self.assertIs(is_merged(merged(lot)), True)

    def test_by_name(self):
        self.assertEqual(merged(lot=E), ((1, 0),))
        self.assertIs(is_merged(lot=T), True)


class EqualCallsTest(unittest.TestCase):
    def test_equal_calls_get_equal_results(self):
        for lot in EDGES + LONG + small_lots(40):
            if not is_little_enough(lot):
                continue
            again = tuple((turn, first) for turn, first in lot)
            for _ in range(2):
                for made in (fractions_of, merged, is_merged):
                    self.assertEqual(made(lot), made(again))
                self.assertEqual(parting_day(lot, T), parting_day(again, T))
            self.assertEqual(again, lot)


if __name__ == "__main__":
    unittest.main()
