"""[A3], [A4], [A5]: what integers, tuples, pairs, fractions, watches and lots are, and module forms."""

import copy
import math
import random
import unittest
from fractions import Fraction

from daywatches.bounds import MAX_TURN, MAX_WATCHES
from daywatches.forms import lot_error, round_of, shares_sum, watch
from tests.values import ANY_VALUES, INTEGERS, NOT_INTEGERS, NOT_TUPLES, nested

T = ((2, 0), (3, 0), (4, 1), (6, 5), (12, 7))
E = ((2, 0), (4, 1), (4, 3))
FULL = tuple((MAX_TURN - k, MAX_TURN - k - 1) for k in range(MAX_WATCHES))
LOTS = [
    (), ((1, 0),), ((1, 0),) * MAX_WATCHES, ((MAX_TURN, 0),), ((MAX_TURN, MAX_TURN - 1),), T, E, FULL,
    ((2, 1), (2, 1)), ((5, 4), (7, 6), (11, 0)), ((2, 0), (2, 0), (2, 1), (3, 2)), ((6, 1), (4, 3), (9, 8)),
]


def small_lots():
    """Lots with small turns, the same at each run."""
    source = random.Random(5)
    lots = []
    for _ in range(200):
        turns = [source.randint(1, 12) for _ in range(source.randint(0, MAX_WATCHES))]
        lots.append(tuple((turn, source.randrange(turn)) for turn in turns))
    return lots


class DocExamples(unittest.TestCase):
    def test_examples(self):
        told = [lot_error(T), lot_error(((2, 2),)), watch(7, -1), round_of(T), shares_sum(T), shares_sum(E)]
        self.assertEqual(told, [None, (0, "first"), (7, 6), 12, (4, 3), (1, 1)])


class LotErrorTest(unittest.TestCase):
    def test_lots(self):
        for lot in LOTS + small_lots():
            with self.subTest(lot):
                self.assertIsNone(lot_error(lot))

    def test_what_is_no_tuple_is_no_lot(self):
        for value in NOT_TUPLES:
            with self.subTest(value):
                self.assertEqual(lot_error(value), (None, "lot"))

    def test_number_of_watches(self):
        self.assertIsNone(lot_error(()))
        self.assertIsNone(lot_error(((3, 2),) * MAX_WATCHES))
        self.assertEqual(lot_error(((3, 2),) * (MAX_WATCHES + 1)), (None, "lot"))
        self.assertEqual(lot_error(((3, 2),) * 2000), (None, "lot"))

    def test_too_many_goes_ahead_of_wrong_items(self):
        self.assertEqual(lot_error((None,) * (MAX_WATCHES + 1)), (None, "lot"))
        self.assertEqual(lot_error((None,) * MAX_WATCHES), (0, "watch"))

    def test_what_is_no_pair_is_no_watch(self):
        for value in NOT_TUPLES + [(), (2,), (2, 0, 0), (2, 0, 1), ((2, 0),), T, nested(19)]:
            with self.subTest(value):
                self.assertEqual(lot_error((value,)), (0, "watch"))
                self.assertEqual(lot_error(((1, 0), value, (0, 0))), (1, "watch"))

    def test_turns(self):
        for turn in (1, 2, MAX_TURN - 1, MAX_TURN):
            self.assertIsNone(lot_error(((turn, 0),)))
        for turn in NOT_INTEGERS + [0, -1, -2, -MAX_TURN, MAX_TURN + 1, 10 ** 40 - 1, 1 - 10 ** 40]:
            with self.subTest(turn):
                self.assertEqual(lot_error(((turn, 0),)), (0, "turn"))

    def test_firsts(self):
        for turn in (1, 2, 7, MAX_TURN):
            for first in (0, turn // 2, turn - 1):
                self.assertIsNone(lot_error(((turn, first),)))
            for first in NOT_INTEGERS + [-1, -turn, turn, turn + 1, 10 ** 40 - 1, 1 - 10 ** 40]:
                with self.subTest(turn=turn, first=first):
                    self.assertEqual(lot_error(((turn, first),)), (0, "first"))

    def test_the_turn_goes_ahead_of_the_first(self):
        for turn in NOT_INTEGERS + [0, -1, MAX_TURN + 1]:
            for first in (None, True, -1, turn):
                self.assertEqual(lot_error(((turn, first),)), (0, "turn"))

    def test_the_first_wrong_item_is_told(self):
        wrong = [(None, "watch"), ([2, 0], "watch"), ((0, 0), "turn"), ((2, 2), "first")]
        for place in range(MAX_WATCHES):
            for item, word in wrong:
                for later, _ in wrong:
                    behind = MAX_WATCHES - place - 1
                    items = ((3, 1),) * place + (item,) + (later,) * behind
                    self.assertEqual(lot_error(items), (place, word))

    def test_any_value_gets_an_answer(self):
        for value in ANY_VALUES:
            for made in (value, (value,), (value, value), ((value, value),), [(value, 0)], ((2, value),)):
                before = copy.deepcopy(made)
                told = lot_error(made)
                self.assertEqual(made, before)
                self.assertEqual(told, lot_error(copy.deepcopy(made)))
                if told is not None:
                    self.assertIs(type(told), tuple)
                    self.assertEqual(len(told), 2)

    def test_what_is_passed_stays_as_it_is(self):
        inner = [2, 0]
        table = {"lot": inner}
        for value in (inner, table, (inner,), ((2, inner),), ((table, 0),)):
            lot_error(value)
        self.assertEqual(inner, [2, 0])
        self.assertEqual(table, {"lot": [2, 0]})

    def test_what_the_package_returned_may_be_passed(self):
        self.assertEqual(lot_error(lot_error(((2, 2),))), (0, "watch"))
        self.assertEqual(lot_error((shares_sum(E),)), (0, "first"))
        self.assertEqual(lot_error((shares_sum(()),)), (0, "turn"))
        self.assertEqual(lot_error(((round_of(FULL), 0),)), (0, "turn"))
        self.assertIsNone(lot_error((watch(7, -1),)))

    def test_by_name(self):
        self.assertIsNone(lot_error(value=T))
        self.assertEqual(lot_error(value=None), (None, "lot"))


class WatchTest(unittest.TestCase):
    def test_the_watch_holds_the_day(self):
        days = [0, 1, -1, 2, -2, 59, -60, 10 ** 17, 10 ** 18 - 1, 1 - 10 ** 18]
        for turn in (1, 2, 3, 7, 60, MAX_TURN - 1, MAX_TURN):
            for day in days + [turn - 1, turn, turn + 1, -turn]:
                with self.subTest(turn=turn, day=day):
                    made = watch(turn, day)
                    self.assertIs(type(made), tuple)
                    self.assertIsNone(lot_error((made,)))
                    self.assertEqual(made[0], turn)
                    self.assertEqual((day - made[1]) % turn, 0)

    def test_days_so_many_turns_apart_have_one_watch(self):
        for turn in range(1, 13):
            for day in range(-30, 30):
                self.assertEqual(watch(turn, day), watch(turn, day + turn))
                self.assertEqual(watch(turn, day), (turn, [d for d in range(turn) if (day - d) % turn == 0][0]))

    def test_edges(self):
        self.assertEqual(watch(1, 0), (1, 0))
        self.assertEqual(watch(1, -(10 ** 18 - 1)), (1, 0))
        self.assertEqual(watch(5, 0), (5, 0))
        self.assertEqual(watch(5, 4), (5, 4))
        self.assertEqual(watch(5, 5), (5, 0))
        self.assertEqual(watch(5, -1), (5, 4))
        self.assertEqual(watch(MAX_TURN, -1), (MAX_TURN, MAX_TURN - 1))
        self.assertEqual(watch(MAX_TURN, 10 ** 18 - 1), (MAX_TURN, MAX_TURN - 1))
        self.assertEqual(watch(MAX_TURN, 1 - 10 ** 18), (MAX_TURN, 1))

    def test_by_name(self):
        self.assertEqual(watch(turn=7, day=-1), (7, 6))
        self.assertEqual(watch(day=-1, turn=7), (7, 6))


class RoundTest(unittest.TestCase):
    def test_least_integer_that_all_turns_divide(self):
        for lot in small_lots():
            with self.subTest(lot):
                whole = 1
                while any(whole % turn for turn, _ in lot):
                    whole += 1
                self.assertEqual(round_of(lot), whole)

    def test_days_come_back_after_a_round(self):
        for lot in small_lots()[:40]:
            whole = round_of(lot)
            for day in range(-20, 20):
                held = [watch(turn, day) == (turn, first) for turn, first in lot]
                self.assertEqual(held, [watch(turn, day + whole) == (turn, first) for turn, first in lot])

    def test_edges(self):
        self.assertEqual(round_of(()), 1)
        self.assertEqual(round_of(((1, 0),)), 1)
        self.assertEqual(round_of(((6, 0), (6, 0))), 6)
        self.assertEqual(round_of(((5, 4), (7, 6), (11, 0))), 385)
        self.assertEqual(round_of(((MAX_TURN, 0), (MAX_TURN, 5))), MAX_TURN)
        self.assertEqual(round_of(((MAX_TURN, 0), (MAX_TURN - 1, 5))), MAX_TURN * (MAX_TURN - 1))
        self.assertEqual(round_of(FULL), math.lcm(*[turn for turn, _ in FULL]))

    def test_order_and_firsts_do_not_matter(self):
        self.assertEqual(round_of(((4, 3), (6, 1))), 12)
        self.assertEqual(round_of(((6, 5), (4, 0))), 12)

    def test_by_name(self):
        self.assertEqual(round_of(lot=T), 12)


class SharesSumTest(unittest.TestCase):
    def check_fraction(self, told):
        self.assertIs(type(told), tuple)
        self.assertEqual([type(part) for part in told], [int, int])
        self.assertGreaterEqual(told[1], 1)
        self.assertEqual(math.gcd(*told), 1)

    def test_sum_of_the_shares(self):
        for lot in LOTS + small_lots():
            with self.subTest(lot):
                told = shares_sum(lot)
                self.check_fraction(told)
                self.assertEqual(Fraction(*told), sum([Fraction(1, turn) for turn, _ in lot], Fraction(0)))

    def test_edges(self):
        self.assertEqual(shares_sum(()), (0, 1))
        self.assertEqual(shares_sum(((1, 0),)), (1, 1))
        self.assertEqual(shares_sum(((1, 0),) * MAX_WATCHES), (10, 1))
        self.assertEqual(shares_sum(((MAX_TURN, 0),)), (1, MAX_TURN))
        self.assertEqual(shares_sum(((4, 1), (4, 1))), (1, 2))
        self.assertEqual(shares_sum(((2, 0), (3, 0))), (5, 6))
        self.assertEqual(shares_sum(((2, 0), (3, 0), (6, 0))), (1, 1))
        self.assertEqual(shares_sum(((2, 0), (2, 0), (2, 1))), (3, 2))

    def test_by_name(self):
        self.assertEqual(shares_sum(lot=E), (1, 1))


class EqualCallsTest(unittest.TestCase):
    def test_equal_calls_get_equal_results(self):
        for lot in LOTS:
            again = copy.deepcopy(lot)
            self.assertEqual(round_of(lot), round_of(again))
            self.assertEqual(shares_sum(lot), shares_sum(again))
        for day in INTEGERS:
            self.assertEqual(watch(7, day), watch(7, day))


if __name__ == "__main__":
    unittest.main()
