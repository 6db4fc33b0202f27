"""[C1], [C2]: module sums; [A2] (a) so far as sums and open days tell it."""

import copy
import math
import random
import unittest
from fractions import Fraction

from daywatches.bounds import MAX_TURN, MAX_WATCHES
from daywatches.days import next_open, tally
from daywatches.sums import few_days, sums, sums_by, weights_error
from tests.lots import (
    COPRIME, DOUBLED, EDGES, LONG, NONE_OPEN, Clock, E, T, choices, slow_round, slow_tally, small_lots,
)
from tests.values import ANY_VALUES, NOT_INTEGERS, NOT_TUPLES


def right_weights(lot, source):
    """Right weights of the lot, of any size."""
    weights = []
    for turn, _ in lot:
        weight = source.randint(1, turn)
        while math.gcd(weight, turn) != 1:
            weight = source.randint(1, turn)
        weights.append(weight)
    return tuple(weights)


def slow_sums(lot, weights):
    """The sums, of each choice of watches by itself."""
    parts = [Fraction(weight, turn) for (turn, _), weight in zip(lot, weights)]
    found = sorted({sum(some, Fraction(0)) % 1 for some in choices(parts)})
    return tuple((part.numerator, part.denominator) for part in found)


class DocExamples(unittest.TestCase):
    def test_examples(self):
        told = [sums(((2, 0), (3, 0))), few_days(T), few_days(((4, 0), (4, 1), (4, 2))), sums_by(((5, 0),), (3,))]
        self.assertEqual(told, [((0, 1), (1, 3), (1, 2), (5, 6)), 12, 4, ((0, 1), (3, 5))])
        self.assertEqual(weights_error(T, (1, 1, 1, 2, 1)), (3, "weight"))


class SumsTest(unittest.TestCase):
    def check(self, lot, weights, told):
        self.assertIs(type(told), tuple)
        for part in told:
            self.assertIs(type(part), tuple)
            top, bottom = part
            self.assertEqual(math.gcd(top, bottom), 1)
            self.assertTrue(0 <= top < bottom)
        self.assertEqual(told, slow_sums(lot, weights))

    def test_small_lots(self):
        source = random.Random(6)
        for lot in small_lots(60, 10, 7) + EDGES:
            ones = (1,) * len(lot)
            with self.subTest(lot):
                self.check(lot, ones, sums(lot))
                self.assertEqual(sums_by(lot, ones), sums(lot))
                self.assertEqual(few_days(lot), len(sums(lot)))
                weights = right_weights(lot, source)
                self.check(lot, weights, sums_by(lot, weights))
                last = tuple(max(1, turn - 1) for turn, _ in lot)
                self.check(lot, last, sums_by(lot, last))

    def test_edges(self):
        self.assertEqual([sums(()), sums_by((), ()), few_days(())], [((0, 1),), ((0, 1),), 1])
        self.assertEqual([sums(((1, 0),)), few_days(((1, 0),))], [((0, 1),), 1])
        self.assertEqual([sums(((1, 0),) * MAX_WATCHES), sums_by(((1, 0), (1, 0)), (1, 1))], [((0, 1),), ((0, 1),)])
        self.assertEqual(sums(((2, 0), (2, 0))), ((0, 1), (1, 2)))
        self.assertEqual(sums(((2, 0), (2, 1), (1, 0))), ((0, 1), (1, 2)))
        self.assertEqual(sums(((MAX_TURN, 4),)), ((0, 1), (1, MAX_TURN)))
        self.assertEqual(sums_by(((MAX_TURN, 4),), (MAX_TURN - 1,)), ((0, 1), (MAX_TURN - 1, MAX_TURN)))
        self.assertEqual(sums_by(((3, 0), (3, 0)), (2, 2)), ((0, 1), (1, 3), (2, 3)))
        self.assertEqual(sums_by(((3, 0), (3, 0)), (1, 2)), ((0, 1), (1, 3), (2, 3)))
        self.assertEqual(few_days(((MAX_TURN, 0),) * MAX_WATCHES), MAX_WATCHES + 1)
        self.assertEqual(few_days(DOUBLED), 1024)
        self.assertEqual(few_days(NONE_OPEN), 512)

    def test_ascending_by_worth_not_as_tuples(self):
        self.assertEqual(sums(((4, 0), (6, 0))), ((0, 1), (1, 6), (1, 4), (5, 12)))

    def test_firsts_do_not_matter(self):
        self.assertEqual(sums(((4, 3), (6, 1))), sums(((4, 0), (6, 5))))
        self.assertEqual(few_days(((6, 1), (4, 3))), 4)

    def test_long_lots(self):
        source = random.Random(8)
        for lot in LONG:
            weights = right_weights(lot, source)
            with self.subTest(lot):
                with Clock(self):
                    told, by_weights = sums(lot), sums_by(lot, weights)
                self.check(lot, (1,) * len(lot), told)
                self.check(lot, weights, by_weights)
                self.assertEqual(few_days(lot), len(told))
        self.assertEqual(few_days(COPRIME), 1024)

    def test_few_days_in_a_row_tell_all(self):
        source = random.Random(9)
        decided = {True: 0, False: 0}
        for lot in small_lots(300, 6, 10, 10):
            whole = slow_round(lot)
            tallies = [slow_tally(lot, day) for day in range(whole)]
            for weights in ((1,) * len(lot), right_weights(lot, source)):
                many = len(sums_by(lot, weights))
                self.assertLessEqual(many, 2 ** len(lot))
                for least in (1, 2, 3):
                    always = min(tallies) >= least
                    decided[always] += 1
                    for begin in (0, source.randrange(-whole, whole), source.randrange(-10 ** 18, 10 ** 18)):
                        row = [tally(lot, day) >= least for day in range(begin, begin + many)]
                        self.assertEqual(all(row), always)
        self.assertGreater(min(decided.values()), 100)

    def test_open_days_are_found_in_few_days(self):
        for lot in small_lots() + EDGES + LONG:
            for begin in (0, -1, 77, 10 ** 18 - 1, 1 - 10 ** 18):
                found = next_open(lot, begin)
                if found is not None:
                    self.assertLess(found - begin, few_days(lot))

    def test_no_fewer_days_are_enough(self):
        # All days but the last of few_days are held, and yet that one is open.
        self.assertEqual([next_open(DOUBLED, 0), few_days(DOUBLED)], [1023, 1024])
        row = tuple((11, day) for day in range(10))
        self.assertEqual([next_open(row, 0), few_days(row)], [10, 11])

    def test_somewhat_beyond_the_bounds(self):
        lot = ((MAX_TURN + 1, 0),) + ((2, 1),) * MAX_WATCHES
        self.assertEqual(few_days(lot), 4)
        self.assertEqual(sums(lot)[1], (1, MAX_TURN + 1))

    def test_by_name(self):
        self.assertEqual(sums(lot=((2, 0),)), ((0, 1), (1, 2)))
        self.assertEqual(sums_by(weights=(3,), lot=((5, 0),)), ((0, 1), (3, 5)))
        self.assertEqual(few_days(lot=T), 12)
        self.assertEqual(weights_error(value=(1, 1, 1, 2, 1), lot=T), (3, "weight"))

    def test_equal_calls_get_equal_results(self):
        for lot in EDGES + LONG:
            again = tuple((turn, first) for turn, first in lot)
            weights = right_weights(lot, random.Random(1))
            for _ in range(2):
                self.assertEqual(sums(lot), sums(again))
                self.assertEqual(few_days(lot), few_days(again))
                self.assertEqual(sums_by(lot, weights), sums_by(again, tuple(list(weights))))
                self.assertEqual(weights_error(lot, weights), weights_error(again, weights))


class WeightsErrorTest(unittest.TestCase):
    def test_right_weights(self):
        source = random.Random(2)
        for lot in small_lots() + EDGES + LONG:
            self.assertIsNone(weights_error(lot, (1,) * len(lot)))
            self.assertIsNone(weights_error(lot, right_weights(lot, source)))
            self.assertIsNone(weights_error(lot, tuple(max(1, turn - 1) for turn, _ in lot)))

    def test_every_weight_of_small_turns(self):
        for turn in range(1, 31):
            lot = ((1, 0), (turn, turn - 1))
            for weight in range(-3, 2 * turn + 3):
                common = [d for d in range(2, turn + 1) if turn % d == 0 and weight % d == 0]
                right = 1 <= weight <= turn and not common
                self.assertEqual(weights_error(lot, (1, weight)), None if right else (1, "weight"))

    def test_edges(self):
        self.assertIsNone(weights_error((), ()))
        self.assertIsNone(weights_error(((1, 0),), (1,)))
        self.assertEqual(weights_error(((1, 0),), (2,)), (0, "weight"))
        self.assertEqual(weights_error(((1, 0),), (0,)), (0, "weight"))
        self.assertEqual(weights_error(((5, 0),), (5,)), (0, "weight"))
        self.assertEqual(weights_error(((5, 0),), (6,)), (0, "weight"))
        self.assertEqual(weights_error(((5, 0),), (-1,)), (0, "weight"))
        self.assertEqual(weights_error(((6, 0),), (4,)), (0, "weight"))
        self.assertIsNone(weights_error(((6, 0),), (5,)))
        self.assertIsNone(weights_error(((MAX_TURN, 0),), (MAX_TURN - 1,)))
        for weight in (0, 2, 5, MAX_TURN // 5, MAX_TURN, MAX_TURN + 1, 10 ** 40 - 1):
            self.assertEqual(weights_error(((MAX_TURN, 0),), (weight,)), (0, "weight"))

    def test_what_is_no_tuple_of_as_many_items(self):
        for value in NOT_TUPLES + [[1, 1, 1], {0: 1, 1: 1, 2: 1}, "111", b"111", (), (1,), (1, 1), (1, 1, 1, 1), T]:
            with self.subTest(value):
                self.assertEqual(weights_error(E, value), (None, "weights"))
        self.assertEqual(weights_error((), (1,)), (None, "weights"))
        self.assertEqual(weights_error((), []), (None, "weights"))
        self.assertEqual(weights_error((), None), (None, "weights"))
        self.assertEqual(weights_error(COPRIME, (1,) * (MAX_WATCHES + 1)), (None, "weights"))

    def test_another_length_goes_ahead_of_wrong_items(self):
        self.assertEqual(weights_error(E, (None, None)), (None, "weights"))
        self.assertEqual(weights_error(E, (0, 0, 0, 0)), (None, "weights"))
        self.assertEqual(weights_error(E, (0, 0, 0)), (0, "weight"))

    def test_the_first_wrong_item_is_told(self):
        for place in range(MAX_WATCHES):
            for wrong in NOT_INTEGERS + [0, 7, -1]:
                value = (1,) * place + (wrong,) + (None,) * (MAX_WATCHES - place - 1)
                self.assertEqual(weights_error(((7, 0),) * MAX_WATCHES, value), (place, "weight"))

    def test_any_value_gets_an_answer(self):
        for value in ANY_VALUES:
            for made in (value, (value,), (1, value), (value, 1, 1), [value]):
                for lot in ((), ((1, 0),), ((2, 1), (3, 0)), E):
                    before = copy.deepcopy(made)
                    told = weights_error(lot, made)
                    self.assertEqual(made, before)
                    self.assertEqual(told, weights_error(lot, copy.deepcopy(made)))
                    self.assertIn(told, (None, (None, "weights"), (0, "weight"), (1, "weight"), (2, "weight")))

    def test_true_is_no_weight(self):
        self.assertEqual(weights_error(((1, 0),), (True,)), (0, "weight"))
        self.assertEqual(weights_error(((2, 0), (3, 0)), (1, True)), (1, "weight"))


if __name__ == "__main__":
    unittest.main()
