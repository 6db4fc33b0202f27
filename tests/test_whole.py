"""[A2] (a) to (h) over the whole program, each by the functions that speak of it; [A3] over the whole program."""

import itertools
import math
import random
import unittest
from fractions import Fraction

from daywatches.alikes import alike, fractions_of, parting_day, told_back
from daywatches.boards import Board, HeldBoard
from daywatches.bounds import MAX_ROUND, MAX_SEEN, MAX_WATCHES
from daywatches.changes import crossed, is_little, mirrored, shifted
from daywatches.covers import day_out, greatest_tally, is_held, least_tally, longest_held, open_day, same_days
from daywatches.days import counts, day_shares, holders, meeting, next_open, open_at, tally
from daywatches.errors import Open, WatchError
from daywatches.exacts import chosen_shares, greatest_turn, is_exact, is_grown, meet, meeting_pair
from daywatches.forms import lot_error, round_of, shares_sum
from daywatches.leasts import fewest_rest, least_breaches, least_rests, lone_day, needless, trimmed_lot
from daywatches.seeks import closing, exact_firsts, least_closing
from daywatches.shells import Shell
from daywatches.splits import paper_holds, split_paper
from daywatches.sums import few_days, sums_by, weights_error
from daywatches.texts import lot_text, parse_lot
from tests.lots import (
    COPRIME, DOUBLED, EDGES, FAR_DAYS, HALVES, LONG, NONE_OPEN, E, T, choices, grown_lots, kept, small_lots,
)

LOTS = small_lots(80, 8, 8, 97) + grown_lots(40, 10, 60, 98) + EDGES + LONG
SHORT = [lot for lot in LOTS if round_of(lot) <= MAX_ROUND]


def any_weights(lot, source):
    """Right weights of the lot."""
    weights = []
    for turn, _ in lot:
        weights.append(source.choice([k for k in range(1, min(turn, 40) + 1) if math.gcd(k, turn) == 1]))
    return tuple(weights)


class WhatHoldsTest(unittest.TestCase):
    def test_a_few_days_in_a_row_tell_all(self):
        source = random.Random(99)
        for lot in LOTS:
            weights = any_weights(lot, source)
            self.assertIsNone(weights_error(lot, weights))
            many = min(few_days(lot), len(sums_by(lot, weights)))
            self.assertLessEqual(many, 2 ** len(lot))
            begin = source.choice(FAR_DAYS + [0, -5])
            row = [tally(lot, day) for day in range(begin, begin + many)]
            for least in range(1, MAX_WATCHES + 1):
                self.assertIs(is_held(lot, least), min(row) >= least)
            self.assertEqual(least_tally(lot), min(row))
            self.assertEqual(open_day(lot, 1) is None, counts(lot, 0, round_of(lot))[0] == 0)
            if len(lot) <= 6 and open_day(lot, 1) is not None:
                self.assertLess(longest_held(lot), few_days(lot))
                self.assertLess(open_day(lot, 1), few_days(lot))

    def test_b_split_papers(self):
        for lot in SHORT:
            paper = split_paper(lot)
            self.assertEqual(paper is not None, is_held(lot, 1))
            self.assertEqual(paper is not None, next_open(lot, 0) is None)
            if paper is not None:
                self.assertIs(paper_holds(lot, paper), True)
                self.assertEqual(day_shares(lot)[0], (0, 1))

    def test_c_watches_that_meet(self):
        for lot in LOTS:
            most = 0
            for some in choices(range(len(lot))):
                if len(some) > 4 and len(lot) > 8:
                    continue
                met = meeting(lot, some)
                self.assertEqual(met is not None, all(meet(lot, i, j) for i, j in itertools.combinations(some, 2)))
                if met is not None:
                    self.assertTrue(set(some) <= set(holders(lot, met[1])))
                    most = max(most, len(some))
            self.assertGreaterEqual(greatest_tally(lot), most)
            self.assertGreater(day_shares(lot)[greatest_tally(lot)][0], 0)
            self.assertEqual(day_shares(lot)[greatest_tally(lot) + 1:], ((0, 1),) * (len(lot) - greatest_tally(lot)))

    def test_d_exact_lots(self):
        exact = 0
        for lot in LOTS:
            wanted = day_shares(lot)[1:2] == ((1, 1),)
            self.assertIs(is_exact(lot), wanted)
            self.assertIs(meeting_pair(lot) is None and shares_sum(lot) == (1, 1), wanted)
            if not wanted:
                continue
            exact += 1
            turn, times = greatest_turn(lot)
            if turn > 1:
                self.assertGreaterEqual(times, min(k for k in range(2, turn + 1) if turn % k == 0))
            for index, (turn, _) in enumerate(lot):
                for rest in range(turn):
                    some = chosen_shares(lot, index, rest)
                    self.assertNotIn(index, some)
                    shares = [Fraction(1, other) for other, _ in kept(lot, some)]
                    self.assertEqual(sum(shares), Fraction(rest, turn))
            if len(lot) <= MAX_SEEN:
                self.assertIsNotNone(exact_firsts(tuple(turn for turn, _ in lot)))
        self.assertGreater(exact, 30)

    def test_e_needless_watches(self):
        for lot in LOTS:
            for index in range(len(lot)):
                day = lone_day(lot, index)
                self.assertEqual(day is None, index in needless(lot))
                self.assertEqual(day is None, same_days(lot, lot[:index] + lot[index + 1:]))
                if day is not None:
                    self.assertEqual(holders(lot, day), (index,))
            self.assertEqual(needless(trimmed_lot(lot)), ())
            if is_held(lot, 1) and len(lot) <= MAX_SEEN:
                for rest in least_rests(lot):
                    self.assertEqual(needless(kept(lot, rest)), ())
                    for breach in least_breaches(lot):
                        self.assertTrue(set(rest) & set(breach))
                self.assertEqual(len(fewest_rest(lot)), min(map(len, least_rests(lot))))

    def test_f_lots_that_hold_alike(self):
        lots = [lot for lot in LOTS if is_little(lot)]
        source = random.Random(100)
        for _ in range(600):
            one, other = source.choice(lots), source.choice(lots)
            many = len({*fractions_of(one), *fractions_of(other)})
            begin = source.choice([0, -7] + FAR_DAYS)
            same = all(tally(one, day) == tally(other, day) for day in range(begin, begin + many))
            self.assertIs(alike(one, other), same)
            day = parting_day(one, other)
            self.assertEqual(day is None, same)
            if day is not None:
                self.assertNotEqual(tally(one, day), tally(other, day))
                self.assertLess(day, many)

    def test_g_lots_with_unlike_turns(self):
        source = random.Random(101)
        for _ in range(150):
            turns = sorted(source.sample([1, 2, 3, 4, 5, 6, 8, 10, 12, 15, 20, 24, 30, 40, 60], source.randint(0, 10)))
            one = tuple((turn, source.randrange(turn)) for turn in turns)
            other = tuple((turn, source.randrange(turn)) for turn in turns)
            self.assertIs(alike(one, other), one == other)
            self.assertEqual(told_back(tuple(tally(one, day) for day in range(120))), one)

    def test_h_texts_and_boards(self):
        source = random.Random(102)
        for lot in LOTS:
            self.assertEqual(parse_lot(lot_text(lot)), lot)
            for made in (Board, HeldBoard) if is_held(lot, 1) else (Board,):
                board = made(lot)
                for _ in range(8):
                    try:
                        source.choice([
                            lambda: board.add(source.randint(1, 9), source.randint(-9, 9)),
                            lambda: board.drop(source.randrange(10)),
                            lambda: board.move(source.randrange(10), source.randint(-9, 9)),
                            lambda: board.split(source.randrange(10), 2),
                        ])()
                    except WatchError:
                        pass
                while board.version > 0:
                    board.undo()
                self.assertEqual([board.lot, board == made(lot), board.at(0)], [lot, True, lot])


class TogetherTest(unittest.TestCase):
    def test_changes_tell_the_same_of_what_is_changed(self):
        for lot in LOTS:
            for other in (shifted(lot, 5), mirrored(lot), crossed(lot, ((1, 0),))):
                self.assertEqual([least_tally(other), greatest_tally(other)], [least_tally(lot), greatest_tally(lot)])
                self.assertEqual([is_exact(other), needless(other)], [is_exact(lot), needless(lot)])
                self.assertEqual(day_shares(other), day_shares(lot))

    def test_what_is_closed_leaves_no_day_open(self):
        for lot in LOTS:
            turns = (2, 3, 2)
            if len(lot) + len(turns) <= MAX_SEEN:
                firsts = closing(lot, turns)
                self.assertEqual(firsts is None, least_closing(lot, turns) is None)
                if firsts is not None:
                    board = HeldBoard(lot + tuple(zip(turns, firsts)))
                    self.assertEqual(Shell(board).say("open"), "none")

    def test_open_days(self):
        for lot in LOTS:
            day = open_day(lot, 1)
            self.assertEqual(day, next_open(lot, 0))
            self.assertEqual(day, open_at(lot, 0, 1))
            self.assertEqual(day is None, bool(Board(lot)))
            self.assertEqual(day is None, day_out(((1, 0),), lot) is None)
            if day is not None:
                with self.assertRaises(Open) as caught:
                    HeldBoard(lot)
                self.assertEqual(caught.exception.day, day)

    def test_papers_may_be_passed_as_any_value(self):
        paper = split_paper(E)
        for value in (paper, Board(T), (paper, paper), COPRIME, DOUBLED, NONE_OPEN, HALVES):
            self.assertIs(paper_holds(T, value), False)
            error = lot_error(value)
            self.assertEqual(error is None, isinstance(value, tuple) and value != paper and value[0] != paper)
        self.assertIs(is_grown(E), True)


if __name__ == "__main__":
    unittest.main()
