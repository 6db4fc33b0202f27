"""[I1], [I2]: module seeks."""

import copy
import itertools
import random
import unittest

from daywatches.bounds import MAX_LITTLE, MAX_SEEN, MAX_TURN
from daywatches.covers import is_held
from daywatches.errors import TooMany
from daywatches.exacts import is_exact
from daywatches.seeks import closing, exact_firsts, firsts_close, least_closing
from tests.lots import (
    COPRIME, DOUBLED, HALVES, NONE_OPEN, PRIMES, Clock, E, T, grown_lots, kept, slow_round, slow_tallies, small_lots,
)
from tests.values import ANY_VALUES, NOT_INTEGERS, NOT_TUPLES

NINE = ((1, 0),) * 9


def slow_closings(lot, turns):
    """All firsts that close the lot."""
    whole = slow_round(lot + tuple((turn, 0) for turn in turns))
    left = {day for day, tally in enumerate(slow_tallies(lot, whole)) if tally == 0}
    found = []
    for firsts in itertools.product(*map(range, turns)):
        if all(any(day % turn == first for turn, first in zip(turns, firsts)) for day in left):
            found.append(firsts)
    return found


def slow_least_closing(lot, turns):
    """The first of the ascending tuples of indexes with the fewest items that close the lot."""
    for many in range(len(turns) + 1):
        for some in itertools.combinations(range(len(turns)), many):
            if slow_closings(lot, kept(turns, some)):
                return some
    return None


def sought(many, turns, seed, most_ways=400):
    """Pairs of a lot and turns that can be gone through, the same at each run."""
    source = random.Random(seed)
    lots = small_lots(60, 6, 4, seed) + [(), (), T[:3], E[:2], ((2, 0),), ((3, 1), (3, 2))]
    pairs = []
    while len(pairs) < many:
        lot = source.choice(lots)
        chosen = tuple(source.choices(turns, k=source.randint(0, 5)))
        ways = 1
        for turn in chosen:
            ways *= turn
        whole = slow_round(lot + tuple((turn, 0) for turn in chosen))
        if ways <= most_ways and whole <= 240 and len(lot) + len(chosen) <= MAX_SEEN:
            pairs.append((lot, chosen))
    return pairs


class DocExamples(unittest.TestCase):
    def test_examples(self):
        told = [closing(((2, 0),), (4, 4)) in ((1, 3), (3, 1)), closing(((2, 0),), (4, 8))]
        self.assertEqual(told, [True, None])
        told = [firsts_close((), (2, 2), (1, 0)), firsts_close((), (2, 2), (1, 1))]
        self.assertEqual(told, [True, False])
        told = [len(exact_firsts((2, 4, 4))), exact_firsts((2, 3)), least_closing(((2, 0),), (3, 4, 2))]
        self.assertEqual(told + [least_closing(((1, 0),), (5,))], [3, None, (2,), ()])


class SeeksCase(unittest.TestCase):
    def check_firsts(self, turns, told):
        self.assertIs(type(told), tuple)
        self.assertEqual(len(told), len(turns))
        for turn, first in zip(turns, told):
            self.assertIs(type(first), int)
            self.assertIn(first, range(turn))

    def check_closing(self, lot, turns, wanted):
        told = closing(lot, turns)
        self.assertEqual(told is not None, wanted)
        if wanted:
            self.check_firsts(turns, told)
            self.assertIs(is_held(lot + tuple(zip(turns, told)), 1), True)
            self.assertIs(firsts_close(lot, turns, told), True)
        self.assertEqual(closing(lot, turns), told)

    def too_many(self, made, *given):
        for _ in range(2):
            with self.assertRaises(TooMany) as caught:
                made(*given)
            self.assertEqual(caught.exception.limit, 8)


class ClosingTest(SeeksCase):
    def test_all_firsts(self):
        told = {True: 0, False: 0}
        for turns in ((2, 3, 4, 6), (2, 2, 3, 3, 4), (1, 2, 4, 8), (2, 3, 5, 6, 10, 12)):
            for lot, chosen in sought(150, turns, sum(turns)):
                wanted = bool(slow_closings(lot, chosen))
                told[wanted] += 1
                self.check_closing(lot, chosen, wanted)
        self.assertGreater(min(told.values()), 100)

    def test_edges(self):
        self.check_closing((), (), False)
        self.check_closing(((1, 0),), (), True)
        self.assertEqual(closing(((1, 0),), ()), ())
        self.check_closing((), (1,), True)
        self.check_closing((), (2,), False)
        self.check_closing(((2, 0), (2, 1)), (MAX_LITTLE,) * 6, True)
        self.check_closing(((2, 0),), (2,), True)
        self.assertEqual(closing(((2, 0),), (2,)), (1,))
        self.check_closing((), (2, 2), True)
        self.check_closing((), (2, 3, 4, 6, 12), True)
        self.check_closing((), (2, 3, 4, 6, 11), False)
        self.check_closing((), (2, 3, 4, 6), False)
        self.check_closing((), (12, 6, 4, 3, 2, 60, 59, 58), True)
        self.check_closing((), (MAX_LITTLE,) * 8, False)
        self.check_closing((), (8,) * 8, True)
        self.check_closing((), (8,) * 7 + (9,), False)
        self.check_closing(DOUBLED[:7], (60,), False)
        self.check_closing(DOUBLED[:5], (32, 2, 60), True)
        self.check_closing(DOUBLED[:6], (60, 32), True)
        self.check_closing(DOUBLED[:5], (60, 60, 60), False)
        self.check_closing(DOUBLED[:2], (8, 16, 32, 32), True)
        self.check_closing(DOUBLED[:2], (8, 16, 32, 48), False)

    def test_watches_that_hold_days_twice(self):
        self.check_closing((), (2, 3, 3, 6), True)
        self.check_closing((), (3, 2, 6, 3), True)
        self.check_closing((), (2, 3, 6), False)
        self.check_closing(((2, 0), (3, 0)), (6, 6), True)
        self.check_closing(((2, 0), (3, 0)), (6, 12), False)
        self.check_closing(((2, 0), (3, 0)), (4, 6, 12), True)

    def test_great_turns_in_the_lot(self):
        self.check_closing(COPRIME[:5], (3, 3, 3), True)
        self.check_closing(COPRIME[:5], (3, 3, 4), False)
        self.check_closing(((MAX_TURN, 7),) * 6, (2, 2), True)
        self.check_closing(((MAX_TURN, 7),) * 7, (2,), False)
        self.check_closing(((2, 0), (MAX_TURN, 1)), (4, 4), True)
        self.check_closing(HALVES[:6], (5, 7), True)

    def test_short_time(self):
        hard = [
            (2, 3, 4, 5, 6, 7, 8, 9), (3, 4, 5, 6, 7, 8, 9, 10), (5, 10, 3, 6, 11, 14, 4, 2), (7,) * 7 + (8,),
            (2, 3, 5, 7, 11, 13, 17, 19), (6, 5, 10, 30, 4, 3, 20, 60), (8, 48, 18, 16, 2, 9, 6, 36),
            (60, 59, 58, 57, 56, 55, 54, 53), (5, 5, 5, 6, 6, 6, 7, 7), (4, 4, 4, 5, 5, 5, 6, 6),
            (9, 18, 36, 3, 6, 24, 8, 4), (3, 4, 6, 8, 12, 16, 24, 48),
        ]
        for turns in hard:
            for lot, later in (((), turns), (COPRIME[:1], turns[1:]), (((2, 0),), turns[:7]), (E, turns[3:])):
                with self.subTest(lot=lot, turns=later):
                    with Clock(self):
                        told = closing(lot, later)
                        fewest = least_closing(lot, later)
                        exact_firsts(later)
                    self.assertEqual(told is None, fewest is None)
                    self.check_closing(lot, later, told is not None)

    def test_by_name(self):
        self.assertEqual(closing(turns=(2,), lot=((2, 0),)), (1,))


class FirstsCloseTest(SeeksCase):
    def test_all_firsts(self):
        told = {True: 0, False: 0}
        for lot, turns in sought(120, (1, 2, 3, 4, 6), 71, 60):
            closings = slow_closings(lot, turns)
            for firsts in itertools.product(*[range(-1, turn + 2) for turn in turns]):
                wanted = firsts in closings
                told[wanted] += 1
                self.assertIs(firsts_close(lot, turns, firsts), wanted)
        self.assertGreater(min(told.values()), 100)

    def test_any_values(self):
        for lot, turns in (((), (2, 2)), (((1, 0),), (2, 2)), (((1, 0),), ()), ((), (1,)), (COPRIME[:2] + E, (3,) * 3)):
            more = [(0, 1, 2), (None, 0), ((0,), 1), (0, [1]), [0, 1], "01", {0: 0, 1: 1}]
            for value in ANY_VALUES + NOT_TUPLES + more:
                before = copy.deepcopy(value)
                wanted = type(value) is tuple and len(value) == len(turns) and all(
                    type(first) is int and first in range(turn) for turn, first in zip(turns, value)
                )
                if wanted:
                    wanted = is_held(lot + tuple(zip(turns, value)), 1)
                self.assertIs(firsts_close(lot, turns, value), wanted)
                self.assertEqual(value, before)

    def test_each_item_is_an_integer_below_its_turn(self):
        lot, turns = ((1, 0),), (2, 3, 4)
        self.assertIs(firsts_close(lot, turns, (1, 2, 3)), True)
        for place in range(3):
            for item in NOT_INTEGERS + [-1, turns[place], 10 ** 40, -(10 ** 40)]:
                value = (0,) * place + (item,) + (0,) * (2 - place)
                self.assertIs(firsts_close(lot, turns, value), False)
        for value in ((), (1,), (1, 2), (1, 2, 3, 0), [1, 2, 3], ((1, 2, 3),)):
            self.assertIs(firsts_close(lot, turns, value), False)
        self.assertIs(firsts_close(((1, 0),), (), ()), True)
        self.assertIs(firsts_close((), (), ()), False)
        self.assertIs(firsts_close(((1, 0),), (), (0,)), False)
        self.assertIs(firsts_close((), (2, 2), (True, False)), False)
        self.assertIs(firsts_close(((2, 1),), (2,), (False,)), False)

    def test_by_name(self):
        self.assertIs(firsts_close(value=(1, 0), turns=(2, 2), lot=()), True)


class ExactFirstsTest(SeeksCase):
    def check(self, turns, wanted):
        told = exact_firsts(turns)
        self.assertEqual(told is not None, wanted, turns)
        if wanted:
            self.check_firsts(turns, told)
            self.assertIs(is_exact(tuple(zip(turns, told))), True)
        self.assertEqual(exact_firsts(turns), told)

    def test_all_firsts(self):
        source = random.Random(72)
        told = {True: 0, False: 0}
        for turns in ((2, 3, 4, 6), (2, 4, 4, 8), (3, 3, 6, 6), (1, 2, 3, 4, 6, 12)):
            for _ in range(150):
                chosen = tuple(source.choices(turns, k=source.randint(0, 5)))
                ways = 1
                for turn in chosen:
                    ways *= turn
                if ways > 800:
                    continue
                wanted = any(
                    set(slow_tallies(tuple(zip(chosen, firsts)))) == {1}
                    for firsts in itertools.product(*map(range, chosen))
                )
                told[wanted] += 1
                self.check(chosen, wanted)
        self.assertGreater(min(told.values()), 20)

    def test_turns_of_grown_lots(self):
        source = random.Random(73)
        for lot in grown_lots(120, 8, 60, 74):
            turns = tuple(source.sample([turn for turn, _ in lot], len(lot)))
            self.check(turns, True)
            if len(turns) < 8:
                self.check(turns + (60,), False)
            self.check(turns[1:], False)

    def test_edges(self):
        self.check((), False)
        self.check((1,), True)
        self.check((1, 1), False)
        self.check((2,), False)
        self.check((2, 2), True)
        self.check((8,) * 8, True)
        self.check((8,) * 7, False)
        self.check((MAX_LITTLE,) * 8, False)
        self.check((2, 4, 8, 16, 32, 32), True)
        self.check((32, 16, 8, 4, 2, 32), True)

    def test_shares_that_come_to_one_without_an_exact_lot(self):
        self.check((2, 3, 6), False)
        self.check((2, 4, 6, 12), False)
        self.check((2, 3, 12, 12), False)
        self.check((3, 3, 4, 12), False)
        self.check((3, 4, 4, 6), False)
        self.check((3, 5, 9, 12, 15, 20, 36, 45), False)
        self.check((4, 4, 4, 5, 20), False)

    def test_short_time(self):
        with Clock(self):
            for turns in itertools.combinations_with_replacement((2, 3, 4, 6, 8, 12), 6):
                exact_firsts(turns)

    def test_by_name(self):
        self.assertEqual(exact_firsts(turns=(1,)), (0,))


class LeastClosingTest(SeeksCase):
    def check(self, lot, turns, wanted):
        told = least_closing(lot, turns)
        self.assertEqual(told, wanted)
        if wanted is not None:
            self.assertIs(type(told), tuple)
            self.check_closing(lot, kept(turns, told), True)
        self.check_closing(lot, turns, wanted is not None)

    def test_all_choices(self):
        sizes = set()
        for turns in ((2, 3, 4, 6), (2, 2, 3, 3, 4), (1, 2, 4, 8)):
            for lot, chosen in sought(120, turns, 80 + sum(turns), 300):
                wanted = slow_least_closing(lot, chosen)
                self.check(lot, chosen, wanted)
                sizes.add(None if wanted is None else len(wanted))
        self.assertGreater(len(sizes), 4)

    def test_edges(self):
        self.check((), (), None)
        self.check(((1, 0),), (), ())
        self.check(((1, 0),), (1,) * 7, ())
        self.check((), (1,) * 8, (0,))
        self.check((), (2,) * 8, (0, 1))
        self.check((), (4, 2, 4, 2, 1), (4,))
        self.check((), (4, 2, 4, 2), (1, 3))
        self.check((), (4, 3, 4, 3, 4, 3, 4), (1, 3, 5))
        self.check((), (8,) * 8, tuple(range(8)))
        self.check((), (8,) * 7, None)
        self.check((), (12, 2, 5, 3, 4, 7, 6), (0, 1, 3, 4, 6))
        self.check(((2, 0),), (60, 4, 60, 4), (1, 3))
        self.check(COPRIME[:4], (3, 2, 3, 3), (0, 2, 3))
        self.check(COPRIME[:4], (3, 2, 3, 2), (1, 3))

    def test_fewest_items_go_ahead_of_lesser_ones(self):
        self.check((), (3, 3, 3, 2, 2), (3, 4))
        self.check((), (3, 2, 3, 2, 3), (1, 3))
        self.check((), (2, 4, 4, 2), (0, 3))
        self.check(((2, 0),), (4, 4, 2), (2,))
        self.check(((2, 0),), (4, 6, 6, 4, 6), (0, 3))

    def test_the_first_of_equal_ones(self):
        self.check((), (2, 2, 2, 2), (0, 1))
        self.check((), (5, 2, 5, 2, 2), (1, 3))
        self.check((), (2, 4, 2, 4, 4), (0, 2))
        self.check(((2, 0),), (3, 4, 8, 8, 4, 4), (1, 4))

    def test_by_name(self):
        self.assertEqual(least_closing(turns=(3, 4, 2), lot=((2, 0),)), (2,))


class TooManyTest(SeeksCase):
    def test_just_enough_and_one_more(self):
        for lot in ((), ((1, 0),), E, NONE_OPEN[:7], ((MAX_TURN, 5),) * 8):
            room = MAX_SEEN - len(lot)
            turns = (2,) * room
            closing(lot, turns)
            least_closing(lot, turns)
            firsts_close(lot, turns, None)
            for more in ((2,) * (room + 1), (60,) * (room + 2), (1,) * (room + 1)):
                self.too_many(closing, lot, more)
                self.too_many(least_closing, lot, more)
                for value in ANY_VALUES + [(0,) * len(more), (1,) * len(more)]:
                    self.too_many(firsts_close, lot, more, value)
        exact_firsts((2,) * 8)
        self.too_many(exact_firsts, (2,) * 9)
        self.too_many(exact_firsts, (9,) * 9)
        self.too_many(exact_firsts, tuple(range(1, 12)))

    def test_a_lot_alone(self):
        for lot in (NINE, PRIMES, NONE_OPEN, COPRIME):
            self.too_many(closing, lot, ())
            self.too_many(least_closing, lot, ())
            self.too_many(firsts_close, lot, (), ())
        self.assertEqual(closing(NINE[:8], ()), ())
        self.assertEqual(least_closing(NINE[:8], ()), ())
        self.assertIs(firsts_close(NINE[:8], (), ()), True)


if __name__ == "__main__":
    unittest.main()
