"""[E1], [E2], [E3]: module exacts; [A2] (d)."""

import itertools
import math
import random
import unittest
from fractions import Fraction

from daywatches.bounds import MAX_TURN, MAX_WATCHES
from daywatches.days import meeting
from daywatches.errors import TooLong, TooMany
from daywatches.exacts import (
    chosen_shares, greatest_turn, grown_by, is_exact, is_grown, meet, meeting_pair, split,
)
from daywatches.forms import lot_error, shares_sum
from tests.lots import (
    COPRIME, DOUBLED, EDGES, HALVES, LAST_OPEN, LONG, NONE_OPEN, PRIMES, Clock, E, T, grown_lots, kept,
    slow_split, slow_tallies, slow_tally, small_lots,
)

TENS = tuple((10, k) for k in range(10))


def split_lots(most, greatest):
    """All grown lots, as sorted tuples, with at most so many watches and turns up to the greatest."""
    found = {((1, 0),)}
    waiting = [((1, 0),)]
    while waiting:
        lot = waiting.pop()
        for index in range(len(lot)):
            for parts in range(2, most - len(lot) + 2):
                if lot[index][0] * parts <= greatest:
                    more = tuple(sorted(slow_split(lot, index, parts)))
                    if more not in found:
                        found.add(more)
                        waiting.append(more)
    return found


def exact_lots(most, greatest):
    """All exact lots, as sorted tuples, with at most so many watches and turns up to the greatest."""
    found = set()
    whole = math.lcm(*range(1, greatest + 1))

    def go_on(lot, left):
        if not left:
            found.add(tuple(sorted(lot)))
            return
        if len(lot) == most:
            return
        day = min(left)
        for turn in range(1, greatest + 1):
            days = set(range(day % turn, whole, turn))
            if days <= left:
                go_on(lot + ((turn, day % turn),), left - days)

    go_on((), set(range(whole)))
    return found


def led_to(splits):
    """The lot that the splits lead to from ((1, 0),) on."""
    lot = ((1, 0),)
    for index, parts in splits:
        assert type(index) is int and 0 <= index < len(lot) and type(parts) is int and 2 <= parts <= MAX_WATCHES
        lot = slow_split(lot, index, parts)
    return lot


class DocExamples(unittest.TestCase):
    def test_meet(self):
        told = [meet(T, 0, 1), meet(T, 0, 2), meeting_pair(T), meeting_pair(E), is_exact(E), is_exact(((2, 0), (2, 0)))]
        self.assertEqual(told, [True, False, (0, 1), None, True, False])
        self.assertEqual(greatest_turn(E), (4, 2))

    def test_splits(self):
        told = [split(((2, 0), (2, 1)), 1, 2), is_grown(E), is_grown(T), grown_by(((1, 0),))]
        self.assertEqual(told, [((2, 0), (4, 1), (4, 3)), True, False, ()])
        self.assertEqual([chosen_shares(E, 1, 3), chosen_shares(E, 0, 0)], [(0, 2), ()])


class MeetTest(unittest.TestCase):
    def test_day_by_day(self):
        for one in [(turn, first) for turn in range(1, 9) for first in range(turn)]:
            for other in [(turn, first) for turn in range(1, 9) for first in range(turn)]:
                days = range(math.lcm(one[0], other[0]))
                wanted = any(slow_tally((one, other), day) == 2 for day in days)
                self.assertIs(meet((one, other), 0, 1), wanted)
                self.assertIs(meet((other, one), 1, 0), wanted)

    def test_indexes(self):
        for lot in small_lots(80) + EDGES + LONG:
            pairs = []
            for i, j in itertools.permutations(range(len(lot)), 2):
                wanted = meeting(lot, tuple(sorted((i, j)))) is not None
                self.assertIs(meet(lot, i, j), wanted)
                if wanted and i < j:
                    pairs.append((i, j))
            self.assertEqual(meeting_pair(lot), min(pairs) if pairs else None)

    def test_edges(self):
        self.assertIsNone(meeting_pair(()))
        self.assertIsNone(meeting_pair(((1, 0),)))
        self.assertEqual(meeting_pair(((1, 0),) * MAX_WATCHES), (0, 1))
        self.assertEqual(meeting_pair(((5, 4), (5, 4))), (0, 1))
        self.assertIsNone(meeting_pair(TENS))
        self.assertEqual(meeting_pair(TENS[:8] + ((7, 0), (1, 0))), (0, 8))
        self.assertEqual(meeting_pair(TENS[:8] + ((20, 9), (20, 19), (MAX_TURN, 9))[:2]), None)
        self.assertEqual(meeting_pair(((4, 0), (4, 1), (4, 2), (4, 3), (8, 7))), (3, 4))
        self.assertEqual(meeting_pair(((4, 0), (4, 1), (8, 5), (2, 0))), (0, 3))
        self.assertIs(meet(((MAX_TURN, 0), (MAX_TURN, MAX_TURN - 1)), 0, 1), False)
        self.assertIs(meet(((MAX_TURN, 0), (MAX_TURN - 1, MAX_TURN - 2)), 1, 0), True)

    def test_by_name(self):
        self.assertIs(meet(other_index=1, index=0, lot=T), True)
        self.assertEqual(meeting_pair(lot=T), (0, 1))


class ExactTest(unittest.TestCase):
    def check(self, lot, wanted):
        self.assertIs(is_exact(lot), wanted)
        self.assertEqual(meeting_pair(lot) is None and shares_sum(lot) == (1, 1), wanted)
        return wanted

    def test_day_by_day(self):
        lots = small_lots() + small_lots(300, 4, 4, 3) + grown_lots(60, 10, 60)
        told = [self.check(lot, set(slow_tallies(lot)) == {1}) for lot in lots]
        self.assertGreater(min(told.count(True), told.count(False)), 50)

    def test_edges(self):
        self.check((), False)
        self.check(((1, 0),), True)
        self.check(((1, 0),) * 2, False)
        self.check(((2, 0), (2, 0)), False)
        self.check(((2, 1), (2, 0)), True)
        self.check(((2, 0), (4, 1)), False)
        self.check(((3, 0), (3, 0), (3, 0)), False)
        self.check(TENS, True)
        self.check(TENS[:9], False)
        self.check(TENS[:9] + ((10, 8),), False)
        self.check(((MAX_TURN, 0),), False)
        for lot, wanted in ((DOUBLED, False), (LAST_OPEN, False), (NONE_OPEN, True), (COPRIME, False), (PRIMES, False)):
            self.check(lot, wanted)
        self.check(HALVES, False)
        self.check(HALVES[:2], True)

    def test_shares_that_come_to_one_with_watches_that_meet(self):
        self.check(((2, 0), (3, 0), (6, 1)), False)
        self.check(((2, 0), (3, 1), (6, 5)), False)
        self.check(((4, 0), (4, 0), (2, 1)), False)

    def test_grown_lots_and_what_is_beside_them(self):
        with Clock(self):
            for lot in grown_lots(200, seed=8) + [TENS, NONE_OPEN]:
                self.check(lot, True)
                for index, (turn, first) in enumerate(lot):
                    if turn > 1:
                        moved = lot[:index] + ((turn, (first + 1) % turn),) + lot[index + 1:]
                        self.check(moved, False)
                        self.check(lot[:index] + lot[index + 1:], False)

    def test_greatest_turn(self):
        for lot in small_lots() + EDGES + LONG:
            if lot:
                turns = [turn for turn, _ in lot]
                told = greatest_turn(lot)
                self.assertEqual(told, (max(turns), turns.count(max(turns))))
        self.assertEqual(greatest_turn(((1, 0),)), (1, 1))
        self.assertEqual(greatest_turn(((7, 0), (7, 0), (3, 1))), (7, 2))
        self.assertEqual(greatest_turn(((3, 0), (MAX_TURN, 0), (4, 0))), (MAX_TURN, 1))
        self.assertEqual(greatest_turn(lot=E), (4, 2))

    def test_the_greatest_turn_comes_often(self):
        lots = list(exact_lots(10, 10)) + grown_lots(100, seed=14) + [NONE_OPEN, TENS]
        for lot in lots:
            turn, times = greatest_turn(lot)
            if turn > 1:
                least = next(k for k in itertools.count(2) if turn % k == 0)
                self.assertGreaterEqual(times, least)

    def test_by_name(self):
        self.assertIs(is_exact(lot=E), True)


class SplitTest(unittest.TestCase):
    def test_all_parts(self):
        for lot in small_lots(60) + EDGES + LONG:
            for index in range(len(lot)):
                for parts in range(2, MAX_WATCHES + 1):
                    turn = lot[index][0] * parts
                    if len(lot) - 1 + parts > MAX_WATCHES:
                        with self.assertRaises(TooMany) as caught:
                            split(lot, index, parts)
                        self.assertEqual(caught.exception.limit, MAX_WATCHES)
                    elif turn > MAX_TURN:
                        with self.assertRaises(TooLong) as caught:
                            split(lot, index, parts)
                        self.assertEqual(caught.exception.turn, turn)
                    else:
                        told = split(lot, index, parts)
                        self.assertEqual(told, slow_split(lot, index, parts))
                        self.assertIsNone(lot_error(told))
                        for day in range(-20, 20):
                            self.assertEqual(slow_tally(told, day), slow_tally(lot, day))

    def test_edges(self):
        self.assertEqual(split(((1, 0),), 0, 10), TENS)
        self.assertEqual(split(((1, 0), (3, 1), (3, 1)), 1, 2), ((1, 0), (6, 1), (6, 4), (3, 1)))
        nines = ((7, 1),) * 9
        self.assertEqual(split(nines, 8, 2), nines[:8] + ((14, 1), (14, 8)))
        tens = ((MAX_TURN // 10, 7),)
        self.assertEqual(split(tens, 0, 10)[9], (MAX_TURN, 7 + MAX_TURN // 10 * 9))
        self.assertEqual(split(((MAX_TURN // 2, 3),), 0, 2), ((MAX_TURN, 3), (MAX_TURN, 3 + MAX_TURN // 2)))

    def refused(self, error, field, worth, *given):
        for _ in range(2):
            with self.assertRaises(error) as caught:
                split(*given)
            self.assertEqual(getattr(caught.exception, field), worth)

    def test_errors(self):
        nines = ((7, 1),) * 9
        self.refused(TooMany, "limit", 10, nines, 0, 3)
        self.refused(TooMany, "limit", 10, nines + ((7, 1),), 9, 2)
        self.refused(TooMany, "limit", 10, ((1, 0), (1, 0)), 1, 10)
        self.refused(TooLong, "turn", MAX_TURN + 2, ((MAX_TURN // 2 + 1, 3),), 0, 2)
        self.refused(TooLong, "turn", MAX_TURN + 5, ((2, 0), (MAX_TURN // 5 + 1, 3)), 1, 5)
        self.refused(TooLong, "turn", 10 * MAX_TURN, ((MAX_TURN, 0),), 0, 10)

    def test_too_many_goes_ahead_of_too_long(self):
        self.refused(TooMany, "limit", 10, ((MAX_TURN, 0),) * 2, 0, 10)
        self.refused(TooMany, "limit", 10, ((MAX_TURN, 0),) * 10, 9, 2)
        self.refused(TooLong, "turn", 9 * MAX_TURN, ((MAX_TURN, 0),) * 2, 0, 9)

    def test_by_name(self):
        self.assertEqual(split(parts=2, index=1, lot=((2, 0), (2, 1))), ((2, 0), (4, 1), (4, 3)))


class GrownTest(unittest.TestCase):
    def check(self, lot, wanted):
        told = grown_by(lot)
        self.assertIs(is_grown(lot), wanted)
        self.assertEqual(told is not None, wanted)
        if wanted:
            self.assertIs(type(told), tuple)
            for pair in told:
                self.assertEqual([type(pair), len(pair)], [tuple, 2])
            self.assertEqual(sorted(led_to(told)), sorted(lot))

    def test_all_lots_that_grow(self):
        source = random.Random(25)
        grown = split_lots(7, 64)
        self.assertGreater(len(grown), 100)
        for lot in grown:
            self.check(tuple(source.sample(lot, len(lot))), True)
            self.assertIs(is_exact(lot), True)
            index = source.randrange(len(lot))
            turn, first = lot[index]
            moved = lot[:index] + ((turn, source.randrange(turn)),) + lot[index + 1:]
            self.check(moved, tuple(sorted(moved)) in grown)
            self.check(lot[:index] + lot[index + 1:], False)

    def test_all_exact_lots(self):
        grown = split_lots(10, 10)
        exact = exact_lots(10, 10)
        self.assertEqual(exact, grown)
        for lot in exact:
            self.check(lot, lot in grown)

    def test_any_lots(self):
        grown = split_lots(10, 10)
        for lot in small_lots() + small_lots(200, 4, 5, 26) + EDGES:
            self.check(lot, tuple(sorted(lot)) in grown)

    def test_edges(self):
        self.check((), False)
        self.check(((1, 0),), True)
        self.check(((1, 0), (1, 0)), False)
        self.check(((1, 0), (2, 0), (2, 1)), False)
        self.check(((2, 0), (2, 0)), False)
        self.check(((2, 0), (4, 1), (4, 1)), False)
        self.check(TENS, True)
        self.check(TENS[::-1], True)
        self.check(TENS[:9] + ((10, 8),), False)
        self.check(((2, 0),), False)
        self.check(((6, 5), (6, 3), (6, 1), (2, 0)), True)
        self.check(((6, 0), (6, 2), (6, 4), (4, 1), (4, 3)), True)
        self.check(NONE_OPEN, True)
        self.check(DOUBLED, False)
        self.check(COPRIME, False)
        self.check(HALVES, False)
        self.check(((MAX_TURN, 0),), False)
        self.check(tuple((MAX_TURN, k) for k in range(10)), False)
        self.check(tuple((11, k) for k in range(10)), False)

    def test_exact_lots_that_are_not_grown(self):
        # Of ten watches there may be none; with more the known ones are not grown, either.
        lot = ((6, 0), (10, 1), (15, 2))
        lot += tuple((30, day) for day in range(30) if slow_tally(lot, day) == 0)
        self.assertEqual(set(slow_tallies(lot)), {1})
        self.assertIs(is_grown(lot), False)
        self.assertIsNone(grown_by(lot))

    def test_short_time(self):
        with Clock(self):
            for lot in grown_lots(300, seed=27):
                self.check(lot, True)
            for lot in LONG:
                self.check(lot, lot == NONE_OPEN)

    def test_by_name(self):
        self.assertIs(is_grown(lot=E), True)
        self.assertEqual(led_to(grown_by(lot=E)), E)


class ChosenSharesTest(unittest.TestCase):
    def check(self, lot, index, rest):
        told = chosen_shares(lot, index, rest)
        self.assertIs(type(told), tuple)
        self.assertEqual(list(told), sorted(set(told)))
        self.assertNotIn(index, told)
        self.assertTrue(set(told) <= set(range(len(lot))))
        shares = [Fraction(1, turn) for turn, _ in kept(lot, told)]
        self.assertEqual(sum(shares), Fraction(rest, lot[index][0]))

    def test_every_rest(self):
        lots = list(exact_lots(10, 10)) + grown_lots(150, seed=28) + [TENS, E, ((1, 0),)]
        for lot in lots:
            self.assertIs(is_exact(lot), True)
            for index, (turn, _) in enumerate(lot):
                for rest in range(turn):
                    self.check(lot, index, rest)

    def test_greatest_turns(self):
        # An exact lot of ten watches has turns of at most 512.
        with Clock(self):
            for index in range(MAX_WATCHES):
                for rest in range(NONE_OPEN[index][0]):
                    self.check(NONE_OPEN, index, rest)

    def test_edges(self):
        self.assertEqual(chosen_shares(((1, 0),), 0, 0), ())
        self.assertEqual(chosen_shares(((2, 1), (2, 0)), 0, 1), (1,))
        self.assertEqual(chosen_shares(((2, 1), (2, 0)), 1, 1), (0,))
        self.assertEqual(chosen_shares(TENS, 9, 9), tuple(range(9)))
        self.assertEqual(chosen_shares(TENS, 0, 9), tuple(range(1, 10)))

    def test_by_name(self):
        self.assertEqual(chosen_shares(rest=3, index=1, lot=E), (0, 2))


class EqualCallsTest(unittest.TestCase):
    def test_equal_calls_get_equal_results(self):
        for lot in grown_lots(60) + EDGES:
            again = tuple((turn, first) for turn, first in lot)
            for _ in range(2):
                for made in (meeting_pair, is_exact, is_grown, grown_by):
                    self.assertEqual(made(lot), made(again))
            if is_exact(lot):
                self.assertEqual(chosen_shares(lot, 0, lot[0][0] - 1), chosen_shares(again, 0, lot[0][0] - 1))
            self.assertEqual(again, lot)


if __name__ == "__main__":
    unittest.main()
