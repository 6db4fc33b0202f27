"""[H1], [H2]: module changes."""

import random
import unittest

from daywatches.bounds import MAX_LITTLE, MAX_TURN, MAX_WATCHES
from daywatches.changes import crossed, is_little, mirrored, seen, shifted, stretched, together
from daywatches.days import held_at
from daywatches.errors import TooLong, TooMany
from daywatches.forms import lot_error
from tests.lots import (
    COPRIME, EDGES, FAR_DAYS, LONG, NONE_OPEN, PRIMES, Clock, E, T, slow_holders, slow_tally, small_lots,
)

EIGHTEEN = 10 ** 18 - 1


class ChangesCase(unittest.TestCase):
    def check_lot(self, told):
        self.assertIsNone(lot_error(told))

    def too_long(self, turn, made, *given):
        for _ in range(2):
            with self.assertRaises(TooLong) as caught:
                made(*given)
            self.assertEqual(caught.exception.turn, turn)

    def too_many(self, made, *given):
        for _ in range(2):
            with self.assertRaises(TooMany) as caught:
                made(*given)
            self.assertEqual(caught.exception.limit, MAX_WATCHES)


class DocExamples(unittest.TestCase):
    def test_watch_by_watch(self):
        told = [shifted(E, 1), mirrored(T)[2:], stretched(((2, 1),), 3), seen(T, 6, 5), seen(E, 2, 0)]
        self.assertEqual(told, [
            ((2, 1), (4, 2), (4, 0)), ((4, 3), (6, 1), (12, 5)), ((6, 3),), ((2, 0), (1, 0)), ((1, 0),),
        ])

    def test_of_two_lots(self):
        told = [crossed(((2, 0), (3, 1)), ((2, 1), (4, 2))), together(E, ()) == E, is_little(T)]
        self.assertEqual(told, [((4, 2), (6, 1), (12, 10)), True, True])


class ShiftedTest(ChangesCase):
    def test_day_by_day(self):
        for lot in small_lots(60) + EDGES:
            for day in (0, 1, -1, 5, -13):
                told = shifted(lot, day)
                self.check_lot(told)
                self.assertEqual([turn for turn, _ in told], [turn for turn, _ in lot])
                for d in range(-20, 20):
                    self.assertEqual(slow_holders(told, d), slow_holders(lot, d - day))

    def test_far_days(self):
        for lot in EDGES + LONG:
            for day in [EIGHTEEN, -EIGHTEEN, held_at(((MAX_TURN, 5),), 0, 10 ** 18)] + FAR_DAYS:
                told = shifted(lot, day)
                self.check_lot(told)
                for (turn, first), (new_turn, new_first) in zip(lot, told):
                    self.assertEqual(new_turn, turn)
                    self.assertEqual((new_first - first - day) % turn, 0)
                self.assertEqual(shifted(told, -day), lot)

    def test_edges(self):
        self.assertEqual(shifted((), 5), ())
        self.assertEqual(shifted(((1, 0),), -EIGHTEEN), ((1, 0),))
        self.assertEqual(shifted(((MAX_TURN, MAX_TURN - 1),), 1), ((MAX_TURN, 0),))
        self.assertEqual(shifted(((MAX_TURN, 0),), -1), ((MAX_TURN, MAX_TURN - 1),))
        self.assertEqual(shifted(((5, 3), (5, 3)), 4), ((5, 2), (5, 2)))

    def test_by_name(self):
        self.assertEqual(shifted(day=1, lot=E), ((2, 1), (4, 2), (4, 0)))


class MirroredTest(ChangesCase):
    def test_day_by_day(self):
        for lot in small_lots(60) + EDGES + LONG:
            told = mirrored(lot)
            self.check_lot(told)
            self.assertEqual([turn for turn, _ in told], [turn for turn, _ in lot])
            for d in list(range(-20, 20)) + FAR_DAYS:
                self.assertEqual(slow_holders(told, d), slow_holders(lot, -d))
            self.assertEqual(mirrored(told), lot)

    def test_edges(self):
        self.assertEqual(mirrored(()), ())
        self.assertEqual(mirrored(((1, 0), (2, 0), (2, 1))), ((1, 0), (2, 0), (2, 1)))
        self.assertEqual(mirrored(((MAX_TURN, 1), (MAX_TURN, 0))), ((MAX_TURN, MAX_TURN - 1), (MAX_TURN, 0)))

    def test_by_name(self):
        self.assertEqual(mirrored(lot=((3, 1),)), ((3, 2),))


class StretchedTest(ChangesCase):
    def test_day_by_day(self):
        for lot in small_lots(60):
            for times in (1, 2, 3, 10):
                told = stretched(lot, times)
                self.check_lot(told)
                self.assertEqual(len(told), len(lot))
                for d in range(-60, 60):
                    here = slow_holders(lot, d // times) if d % times == 0 else ()
                    self.assertEqual(slow_holders(told, d), here)

    def test_edges(self):
        for lot in EDGES + LONG:
            self.assertEqual(stretched(lot, 1), lot)
        self.assertEqual(stretched((), 10 ** 40), ())
        self.assertEqual(stretched(((1, 0),), MAX_TURN), ((MAX_TURN, 0),))
        self.assertEqual(stretched(((4, 3), (4, 3)), MAX_TURN // 4), ((MAX_TURN, MAX_TURN // 4 * 3),) * 2)
        self.assertEqual(stretched(((MAX_TURN // 2, 7), (1, 0)), 2), ((MAX_TURN, 14), (2, 0)))

    def test_turns_that_are_too_long(self):
        self.too_long(MAX_TURN + 1, stretched, ((1, 0),), MAX_TURN + 1)
        self.too_long(2 * MAX_TURN, stretched, ((MAX_TURN, MAX_TURN - 1),), 2)
        self.too_long(MAX_TURN + 2, stretched, ((1, 0), (2, 1), (2, 0), (3, 0)), MAX_TURN // 2 + 1)
        self.too_long(3 * MAX_TURN, stretched, ((1, 0), (3, 1), (2, 1), (4, 0)), MAX_TURN)
        self.too_long(2 * 10 ** 40, stretched, ((2, 1), (1, 0)), 10 ** 40)
        self.too_long(2 * COPRIME[0][0], stretched, COPRIME, 2)

    def test_by_name(self):
        self.assertEqual(stretched(times=3, lot=((2, 1),)), ((6, 3),))


class SeenTest(ChangesCase):
    def check(self, lot, size, rest, days):
        told = seen(lot, size, rest)
        self.check_lot(told)
        self.assertLessEqual(len(told), len(lot))
        for d in days:
            self.assertEqual(slow_tally(told, d), slow_tally(lot, rest + size * d))
        return told

    def test_day_by_day(self):
        for lot in small_lots(50) + EDGES:
            for size in (1, 2, 3, 4, 6, 7, 10, 12):
                for rest in range(size):
                    self.check(lot, size, rest, range(-12, 12))

    def test_watch_by_watch(self):
        for turn in range(1, 13):
            for first in range(turn):
                for size in range(1, 13):
                    for rest in range(size):
                        days = [d for d in range(turn) if (rest + size * d) % turn == first]
                        told = seen(((turn, first),), size, rest)
                        if not days:
                            self.assertEqual(told, ())
                            continue
                        self.check(((turn, first),), size, rest, range(-turn, turn))
                        self.assertEqual(told, ((turn // len(days), days[0]),))

    def test_the_order_stays(self):
        self.assertEqual(seen(((6, 1), (4, 1), (2, 0), (3, 1), (6, 1)), 2, 1), ((3, 0), (2, 0), (3, 0), (3, 0)))

    def test_edges(self):
        self.assertEqual(seen((), 1, 0), ())
        self.assertEqual(seen((), MAX_TURN, MAX_TURN - 1), ())
        for lot in EDGES + LONG:
            self.assertEqual(seen(lot, 1, 0), lot)
        for turn in (2, 12, 60, MAX_TURN):
            one = ((turn, turn - 1),)
            self.assertEqual(seen(one, turn, turn - 1), ((1, 0),))
            self.assertEqual(seen(one, turn, 0), ())
            self.assertEqual(seen(one, 2, 1), ((turn // 2, turn // 2 - 1),))
            self.assertEqual(seen(one, 2, 0), ())
            self.assertEqual(seen(one, turn // 2, turn // 2 - 1), ((2, 1),))
        self.assertEqual(seen(((1, 0),), MAX_TURN, MAX_TURN - 1), ((1, 0),))
        self.assertEqual(seen(((MAX_TURN, 0),), MAX_TURN - 1, 0), ((MAX_TURN, 0),))
        self.assertEqual(seen(((MAX_TURN, 0),), MAX_TURN - 1, MAX_TURN - 2), ((MAX_TURN, MAX_TURN - 2),))

    def test_long_lots(self):
        for lot in LONG:
            for size in (1, 2, 3, 1024, 999999999989, MAX_TURN - 1, MAX_TURN):
                for rest in (0, size // 2, size - 1):
                    with Clock(self):
                        told = self.check(lot, size, rest, [0, 1, -1, 1023, EIGHTEEN, -EIGHTEEN])
                    for index in range(len(told)):
                        held = [rest + size * told[index][1], rest + size * (told[index][1] - told[index][0])]
                        self.assertGreater(min(slow_tally(lot, day) for day in held), 0)

    def test_what_is_put_together_of_all_rests(self):
        # Each day has one rest, so what is seen of all of them, stretched and shifted back, holds as before.
        for size in (2, 3, 4):
            for d in range(-24, 24):
                parts = [shifted(stretched(seen(T, size, rest), size), rest) for rest in range(size)]
                self.assertEqual(sum(slow_tally(part, d) for part in parts), slow_tally(T, d))

    def test_by_name(self):
        self.assertEqual(seen(rest=5, size=6, lot=T), ((2, 0), (1, 0)))


class TogetherTest(ChangesCase):
    def test_one_behind_the_other(self):
        self.assertEqual(together((), ()), ())
        self.assertEqual(together((), T), T)
        self.assertEqual(together(T, ()), T)
        self.assertEqual(together(E, T), E + T)
        self.assertEqual(together(T, T), T + T)
        self.assertEqual(together(COPRIME, ()), COPRIME)
        self.assertEqual(together(((MAX_TURN, 1),), COPRIME[:9]), ((MAX_TURN, 1),) + COPRIME[:9])

    def test_too_many(self):
        self.too_many(together, COPRIME, ((1, 0),))
        self.too_many(together, ((1, 0),), COPRIME)
        self.too_many(together, T + ((1, 0),), T)
        self.too_many(together, PRIMES, NONE_OPEN)

    def test_by_name(self):
        self.assertEqual(together(other=T, one=E), E + T)


class CrossedTest(ChangesCase):
    def test_day_by_day(self):
        source = random.Random(12)
        lots = small_lots(120, 10, 4)
        for one in lots:
            other = source.choice(lots)
            wanted = []
            for turn, first in one:
                for other_turn, other_first in other:
                    days = [d for d in range(turn * other_turn) if d % turn == first and d % other_turn == other_first]
                    if days:
                        wanted.append((turn * other_turn // len(days), days[0]))
            if len(wanted) > MAX_WATCHES:
                self.too_many(crossed, one, other)
                continue
            told = crossed(one, other)
            self.check_lot(told)
            self.assertEqual(told, tuple(wanted))
            for d in range(-20, 20):
                self.assertEqual(slow_tally(told, d), slow_tally(one, d) * slow_tally(other, d))

    def test_edges(self):
        for lot in EDGES + LONG:
            self.assertEqual(crossed((), lot), ())
            self.assertEqual(crossed(lot, ()), ())
            self.assertEqual(crossed(lot, ((1, 0),)), lot)
            self.assertEqual(crossed(((1, 0),), lot), lot)
        self.assertEqual(crossed(((2, 1), (2, 1)), ((2, 1), (2, 1))), ((2, 1),) * 4)
        self.assertEqual(crossed(((2, 0),), ((2, 1),)), ())
        self.assertEqual(crossed(((MAX_TURN, 5),), ((MAX_TURN, 5), (MAX_TURN, 6))), ((MAX_TURN, 5),))
        self.assertEqual(crossed(((MAX_TURN, 5),), ((2, 1), (2, 0), (5, 0))), ((MAX_TURN, 5),) * 2)

    def test_number_of_watches(self):
        tens = tuple((10, k) for k in range(10))
        self.assertEqual(crossed(tens, tens), tens)
        self.assertEqual(crossed(((1, 0),) * 2, ((2, 0),) * 5), ((2, 0),) * 10)
        self.too_many(crossed, tens, tens + ((10, 3),))
        self.too_many(crossed, ((1, 0),) * 11, ((1, 0),))
        self.too_many(crossed, ((2, 0),) * 4, ((2, 0), (2, 1), (4, 2), (3, 0)))
        self.assertEqual(len(crossed(((2, 0),) * 3, ((2, 0), (2, 1), (4, 2), (3, 0)))), 9)

    def test_turns(self):
        twos, fives = 2 ** 12, 5 ** 12
        told = crossed(((twos, 1),), ((fives, 1),))
        self.assertEqual(told, ((MAX_TURN, 1),))
        one, other = ((twos, twos - 1),), ((fives, 0),)
        (turn, first), = crossed(one, other)
        self.assertEqual([turn, first % twos, first % fives], [MAX_TURN, twos - 1, 0])
        # 1000000000001 is the least turn that is too long, and a product of two.
        self.too_long(MAX_TURN + 1, crossed, ((73, 1),), ((137 * 99990001, 5),))
        self.too_long(MAX_TURN * (MAX_TURN - 1), crossed, ((MAX_TURN, 0),), ((MAX_TURN - 1, 0),))

    def test_the_first_turn_that_is_too_long(self):
        even, odd, other_odd = MAX_TURN, 999999999989, 999999999961
        self.too_long(even * odd, crossed, ((1, 0), (even, 0), (odd, 0)), ((2, 0), (odd, 1), (other_odd, 1)))
        self.too_long(2 * odd, crossed, ((odd, 0), (even, 0)), ((1, 0), (2, 0), (other_odd, 0)))
        self.too_long(odd * other_odd, crossed, ((odd, 0), (even, 0)), ((1, 0), (other_odd, 0), (2, 0)))
        # The first two do not meet, so they make no watch whose turn could be too long.
        self.too_long(3 * even, crossed, ((even, 0), (even, 1)), ((2 * odd, 1), (3, 0)))

    def test_too_many_goes_ahead_of_too_long(self):
        a, b = COPRIME[0], COPRIME[1]
        self.too_many(crossed, (a,) * 4, (b,) * 3)
        self.too_many(crossed, (a,) + ((1, 0),) * 3, (b,) + ((1, 0),) * 3)
        self.too_long(a[0] * b[0], crossed, (a,) + ((1, 0),) * 2, (b,) + ((1, 0),) * 2)
        self.too_many(crossed, COPRIME, COPRIME)

    def test_long_lots(self):
        with Clock(self):
            for size in (2, 3, 5):
                lot = tuple((turn, 1) for turn, _ in PRIMES)
                told = crossed(lot, ((size, 1),))
                self.check_lot(told)
                for d in list(range(-30, 30)) + FAR_DAYS:
                    self.assertEqual(slow_tally(told, d), slow_tally(lot, d) * (d % size == 1))

    def test_by_name(self):
        self.assertEqual(crossed(other=((2, 1), (4, 2)), one=((2, 0), (3, 1))), ((4, 2), (6, 1), (12, 10)))


class IsLittleTest(ChangesCase):
    def test_turns(self):
        self.assertIs(is_little(()), True)
        self.assertIs(is_little(((1, 0),)), True)
        self.assertIs(is_little(((MAX_LITTLE, 59),) * MAX_WATCHES), True)
        self.assertIs(is_little(((MAX_LITTLE + 1, 0),)), False)
        self.assertIs(is_little(((2, 0), (MAX_LITTLE + 1, 60), (3, 0))), False)
        self.assertIs(is_little(((2, 0),) * 9 + ((MAX_TURN, 0),)), False)
        self.assertIs(is_little(COPRIME), False)
        self.assertIs(is_little(PRIMES), True)

    def test_by_name(self):
        self.assertIs(is_little(lot=T), True)


class EqualCallsTest(ChangesCase):
    def test_equal_calls_get_equal_results(self):
        for lot in EDGES + LONG:
            again = tuple((turn, first) for turn, first in lot)
            for _ in range(2):
                self.assertEqual(shifted(lot, -17), shifted(again, -17))
                self.assertEqual(mirrored(lot), mirrored(again))
                self.assertEqual(stretched(lot, 1), stretched(again, 1))
                self.assertEqual(seen(lot, 6, 5), seen(again, 6, 5))
                self.assertEqual(together(lot, ()), together(again, ()))
                self.assertEqual(crossed(lot, ((1, 0),)), crossed(again, ((1, 0),)))
                self.assertEqual(is_little(lot), is_little(again))
            self.assertEqual(again, lot)


if __name__ == "__main__":
    unittest.main()
