"""[D1], [D2]: module splits; [A2] (b)."""

import copy
import random
import unittest

from daywatches.bounds import MAX_ROUND, MAX_TURN, MAX_WATCHES
from daywatches.covers import is_held
from daywatches.days import next_open
from daywatches.errors import TooLong
from daywatches.splits import paper_holds, paper_size, split_paper
from tests.lots import (
    COPRIME, DOUBLED, EDGES, HALVES, LAST_OPEN, NONE_OPEN, PRIMES, Clock, E, T, grown_lots, slow_round, slow_tallies,
    small_lots,
)
from tests.values import ANY_VALUES, NOT_INTEGERS, NOT_TUPLES, nested

E_PAPER = ("split", 2, (("held", 0), ("split", 2, (("held", 1), ("held", 2)))))


def slow_paper_holds(lot, value, size=1, rest=0):
    """Whether value is a split paper about these days, as [D1] says it."""
    if type(value) is not tuple:
        return False
    if len(value) == 2 and value[0] == "held" and type(value[1]) is int and value[1] in range(len(lot)):
        turn, first = lot[value[1]]
        return all((rest + size * k) % turn == first for k in range(turn))
    if len(value) != 3 or value[0] != "split" or type(value[1]) is not int or value[1] < 2:
        return False
    if type(value[2]) is not tuple or len(value[2]) != value[1]:
        return False
    return all(slow_paper_holds(lot, part, size * value[1], rest + k * size) for k, part in enumerate(value[2]))


def sizes_of(value, size=1):
    """All sizes that stand in a split paper."""
    yield size
    if value[0] == "split":
        for part in value[2]:
            yield from sizes_of(part, size * value[1])


def slow_size(value):
    """How many times "held" stands in a split paper."""
    return 1 if value[0] == "held" else sum(map(slow_size, value[2]))


def round_paper(lot):
    """The split paper with as many parts as the round, each of them a day."""
    held_by = [[k for k, (turn, first) in enumerate(lot) if day % turn == first] for day in range(slow_round(lot))]
    return ("split", len(held_by), tuple(("held", some[-1]) for some in held_by))


def changed(value, source):
    """The paper with one part of it changed, mostly to what is not right there."""
    if value[0] == "split" and source.random() < 0.7:
        place = source.randrange(len(value[2]))
        parts = list(value[2])
        parts[place] = changed(parts[place], source)
        return ("split", value[1], tuple(parts))
    if value[0] == "held":
        index = source.choice([0, 1, 2, 3, value[1] + 1, -1, -value[1], 10 ** 40, True, False, None, "0", (0,)])
        return source.choice([
            ("held", index), ("held",), ("held", value[1], 0), ["held", value[1]], ("Held", value[1]), value[1],
            (value[1], "held"), "held", (value,), ("split", 2, (value, value)), ("split", 1, (value,)),
            (("held", 0), value[1]), ("split", 3, (value,) * 3), nested(20),
        ])
    word, parts, papers = value
    return source.choice([
        (word, parts, list(papers)), [word, parts, papers], (word, str(parts), papers), (word, parts + 1, papers),
        (word, parts, papers[:-1]), (word, parts, papers + papers[:1]), (word, parts, papers[::-1]), (word, parts),
        (word, parts, papers, papers), ("held", parts, papers), (word, papers), papers, papers[0], papers[-1],
        (word, 1, papers[:1]), (word, 0, ()), (word, True, papers[:1]), (word, -parts, papers), (None, parts, papers),
        (word, parts, dict(enumerate(papers))), (word, parts, papers[1:] + papers[:1]), ("cut", parts, papers),
        (word, parts, None), (word, 10 ** 40, papers), (word, None, papers), (word, [parts], papers),
        (word, 2 * parts, papers + papers), (word, parts * 2, papers), (("split",), parts, papers), "split",
    ])


class DocExamples(unittest.TestCase):
    def test_examples(self):
        told = [paper_holds(T, split_paper(T)), split_paper(((2, 0), (3, 0))), paper_holds(E, E_PAPER)]
        self.assertEqual(told, [True, None, True])
        told = [paper_size(E_PAPER), paper_holds(E, ("split", 2, (("held", 0), ("held", 1))))]
        self.assertEqual(told + [paper_holds(((1, 0), (1, 0)), ("held", 1))], [3, False, True])


class SplitPaperTest(unittest.TestCase):
    def check(self, lot):
        whole = slow_round(lot)
        held = min(slow_tallies(lot)) > 0
        told = split_paper(lot)
        self.assertEqual(told is not None, held)
        self.assertIs(is_held(lot, 1), held)
        if held:
            self.assertIs(slow_paper_holds(lot, told), True)
            self.assertIs(paper_holds(lot, told), True)
            self.assertEqual({whole % size for size in sizes_of(told)}, {0})
            self.assertEqual(paper_size(told), slow_size(told))
            self.assertIs(paper_holds(lot, round_paper(lot)) if whole > 1 else True, True)
        return held

    def test_day_by_day(self):
        lots = small_lots() + small_lots(100, 4, seed=2) + grown_lots(60, 10, 60)
        held = [self.check(lot) for lot in lots if slow_round(lot) <= MAX_ROUND]
        self.assertGreater(min(held.count(True), held.count(False)), 40)

    def test_edges(self):
        self.assertIsNone(split_paper(()))
        self.assertEqual(split_paper(((1, 0),)), ("held", 0))
        self.assertIn(split_paper(((1, 0),) * MAX_WATCHES), [("held", k) for k in range(MAX_WATCHES)])
        self.assertIsNone(split_paper(((2, 1), (2, 1))))
        self.assertEqual(split_paper(((2, 1), (2, 0))), ("split", 2, (("held", 1), ("held", 0))))
        self.assertIs(self.check(((2, 0), (2, 1)) * 5), True)
        self.assertIs(self.check(((2520, 2519), (1, 0))), True)
        self.assertIs(self.check(tuple((10, k) for k in range(10))), True)

    def test_few_open_days(self):
        for lot, held in ((DOUBLED, False), (LAST_OPEN, False), (NONE_OPEN, True), (NONE_OPEN[::-1], True)):
            self.assertIs(self.check(lot), held)
        for lot in (((8, 0), (9, 1), (5, 2), (7, 3), (1, 0)), ((8, 0), (9, 1), (5, 2), (7, 3), (2, 0), (4, 1), (4, 3))):
            self.assertIs(self.check(lot), True)
        self.assertIs(self.check(((2, 0), (3, 0), (4, 1), (6, 5), (12, 7), (7, 1), (5, 2), (9, 3))), True)
        self.assertIs(self.check(((2, 0), (3, 0), (4, 1), (6, 5), (24, 7), (7, 1), (5, 2), (9, 3))), False)

    def test_rounds_that_are_too_long(self):
        lots = [
            (((2521, 0),), 2521), (((2522, 0), (1, 0)), 2522), (((8, 0), (9, 0), (5, 0), (14, 0), (11, 3)), 27720),
            (HALVES, slow_round(HALVES)), (PRIMES, slow_round(PRIMES)), (COPRIME, slow_round(COPRIME)),
            (((MAX_TURN, 5),), MAX_TURN), (((1, 0), (MAX_TURN, 0)), MAX_TURN), (((61, 0), (60, 1)), 3660),
        ]
        for lot, whole in lots:
            for _ in range(2):
                with self.assertRaises(TooLong) as caught:
                    split_paper(lot)
                self.assertEqual(caught.exception.turn, whole)
        self.assertIsNone(split_paper(((2520, 5),)))
        self.assertIsNone(split_paper(((8, 0), (9, 1), (5, 2), (7, 3))))

    def test_short_time(self):
        lots = [
            ((8, 0), (9, 1), (5, 2), (7, 3), (1, 0)), ((8, 0), (9, 1), (5, 2), (7, 3), (2, 0), (2, 1)),
            ((5, 0), (7, 1), (9, 2), (8, 3), (10, 1), (4, 1), (6, 1), (2, 0), (4, 3)), NONE_OPEN,
        ]
        for lot in lots:
            with self.subTest(lot), Clock(self):
                told = split_paper(lot)
                self.assertIs(paper_holds(lot, told), True)
                self.assertGreater(paper_size(told), 0)

    def test_by_name(self):
        self.assertEqual(split_paper(lot=((1, 0),)), ("held", 0))
        self.assertIs(paper_holds(value=E_PAPER, lot=E), True)
        self.assertEqual(paper_size(value=E_PAPER), 3)

    def test_equal_calls_get_equal_results(self):
        for lot in small_lots(40):
            again = tuple((turn, first) for turn, first in lot)
            self.assertEqual(split_paper(lot), split_paper(again))
            self.assertEqual(again, lot)


class PaperHoldsTest(unittest.TestCase):
    def test_any_values(self):
        values = ANY_VALUES + NOT_TUPLES + [
            "held", ("held",), ("held", 0, 0), ("held", "0"), ["held", 0], {"held": 0}, ("held", (0,)), ("held", [0]),
            ("held", -1), ("held", 10 ** 40), ("Held", 0), ("held ", 0), (None, 0), (0, "held"), ("split", 0),
            ("split", 2, ()), ("split", 0, ()), ("split", 1, (("held", 0),)), ("split", 2), ("split",), ("held", None),
            ("split", -2, (("held", 0),) * 2), ("split", 2, (("held", 0),)), ("split", 2, (("held", 0),) * 3),
            ("split", 2, [("held", 0)] * 2), ("split", 2, (["held", 0],) * 2), ("split", "2", (("held", 0),) * 2),
            ("split", 2, (("held", 0), None)), ("split", 2, (("held", False),) * 2), ("split", True, (("held", 0),)),
            ("split", False, ()), ("split", (2,), (("held", 0),) * 2), ("split", 2, (("held", 0),) * 2, ()),
            ("split", 2, {0: ("held", 0), 1: ("held", 0)}), ("split", 10 ** 40, (("held", 0),) * 2),
            ("split", 2, "hh"), ("held", ("held", 0)), (("held", 0),), (("held", 0), ("held", 0)), (["held"], 0),
        ]
        for lot in ((), ((1, 0),), ((1, 0),) * MAX_WATCHES, E, COPRIME):
            for value in values:
                with self.subTest(lot=lot, value=str(value)[:60]):
                    before = copy.deepcopy(value)
                    self.assertIs(paper_holds(lot, value), False)
                    self.assertEqual(value, before)

    def test_bools_are_no_indexes_and_no_parts(self):
        for lot in (((1, 0),), ((1, 0),) * 2):
            for index in NOT_INTEGERS:
                self.assertIs(paper_holds(lot, ("held", index)), False)
            for parts in NOT_INTEGERS:
                self.assertIs(paper_holds(lot, ("split", parts, (("held", 0),) * 2)), False)
            self.assertIs(paper_holds(lot, ("split", 2, (("held", 0),) * 2)), True)

    def test_indexes(self):
        lot = ((1, 0),) * MAX_WATCHES
        for index in range(-12, 14):
            self.assertIs(paper_holds(lot, ("held", index)), 0 <= index < MAX_WATCHES)
            self.assertIs(paper_holds(((2, 0), (2, 1)), ("split", 2, (("held", 0), ("held", index)))), index == 1)
        self.assertIs(paper_holds((), ("held", 0)), False)

    def test_changed_papers(self):
        source = random.Random(31)
        lots = [T, E, ((1, 0), (1, 0)), ((2, 0), (2, 1), (2, 0)), NONE_OPEN, ((3, 1), (3, 0), (6, 2), (6, 5))]
        told = {True: 0, False: 0}
        for lot in lots:
            for paper in (split_paper(lot), round_paper(lot) if slow_round(lot) > 1 else ("held", 1)):
                self.assertIs(paper_holds(lot, paper), True)
                for _ in range(400):
                    value = paper
                    for _ in range(source.choice([1, 1, 1, 2])):
                        if slow_paper_holds(lot, value):
                            value = changed(value, source)
                    wanted = slow_paper_holds(lot, value)
                    told[wanted] += 1
                    self.assertIs(paper_holds(lot, value), wanted, value)
        self.assertGreater(told[True], 50)
        self.assertGreater(told[False], 1000)

    def test_papers_of_other_lots(self):
        lots = [lot for lot in small_lots(120, 6, 6, 9) if is_held(lot, 1)]
        told = {True: 0, False: 0}
        for one in lots:
            paper = split_paper(one)
            for other in lots:
                wanted = slow_paper_holds(other, paper)
                told[wanted] += 1
                self.assertIs(paper_holds(other, paper), wanted)
        self.assertGreater(min(told.values()), 100)

    def test_sizes_need_not_divide_the_round(self):
        thirds = ("split", 3, (E_PAPER,) * 3)
        lot = ((2, 0), (2, 1))
        halves = ("split", 2, (("held", 0), ("held", 1)))
        self.assertIs(paper_holds(lot, ("split", 3, (halves, ("split", 2, (("held", 1), ("held", 0))), halves))), True)
        self.assertIs(paper_holds(lot, ("split", 3, (halves, halves, halves))), False)
        self.assertIs(paper_holds(E, thirds), False)
        self.assertIs(paper_holds(((1, 0),), ("split", 7, (("held", 0),) * 7)), True)

    def test_parts_in_their_order(self):
        lot = ((4, 0), (4, 1), (4, 2), (4, 3))
        # A split into two and two again has the rests 0, 2 and 1, 3; a split into four has 0, 1, 2, 3.
        self.assertIs(paper_holds(lot, ("split", 4, tuple(("held", k) for k in range(4)))), True)
        for places, wanted in (((0, 2, 1, 3), True), ((0, 1, 2, 3), False), ((2, 0, 3, 1), False)):
            a, b, c, d = [("held", k) for k in places]
            paper = ("split", 2, (("split", 2, (a, b)), ("split", 2, (c, d))))
            self.assertIs(paper_holds(lot, paper), wanted)

    def test_long_rounds(self):
        halves = ("split", 2, (("held", 0), ("held", 1)))
        self.assertIs(paper_holds(HALVES, halves), True)
        self.assertIs(paper_holds(HALVES[::-1], halves), False)
        self.assertIs(paper_holds(HALVES[::-1], ("split", 2, (("held", 9), ("held", 8)))), True)
        for index in range(2, MAX_WATCHES):
            self.assertIs(paper_holds(HALVES, ("split", 2, (("held", 0), ("held", index)))), False)
        self.assertIs(paper_holds(COPRIME[:9] + ((1, 0),), ("held", 9)), True)
        self.assertIs(paper_holds(COPRIME[:9] + ((1, 0),), ("held", 8)), False)
        self.assertIs(paper_holds(COPRIME, ("held", 0)), False)
        self.assertIs(paper_holds(((MAX_TURN, 0),), ("held", 0)), False)
        lot = COPRIME[:5] + E
        paper = ("split", 2, (("held", 5), ("split", 2, (("held", 6), ("held", 7)))))
        self.assertIs(paper_holds(lot, paper), True)
        self.assertIs(paper_holds(lot, E_PAPER), False)

    def test_deep_papers(self):
        # Each level halves what the one above leaves; of the days of the last one the first lot holds only every fifth.
        lot = NONE_OPEN[:9] + ((5 * 512, 511),)
        paper = ("held", 9)
        for k in reversed(range(9)):
            paper = ("split", 2, (("held", k), paper))
        self.assertIs(paper_holds(lot, paper), False)
        self.assertIs(paper_holds(NONE_OPEN, paper), True)
        self.assertEqual(paper_size(paper), 10)
        self.assertEqual(paper_size(split_paper(NONE_OPEN)), slow_size(split_paper(NONE_OPEN)))
        for _ in range(200):
            paper = ("split", 2, (("held", 0), paper))
        self.assertIs(paper_holds(NONE_OPEN, paper), False)
        self.assertEqual(paper_size(paper), 210)
        self.assertIs(paper_holds(((1, 0),) * MAX_WATCHES, paper), True)

    def test_wide_papers(self):
        lot = ((2, 0), (2, 1))
        for parts in (2, 10, 998, 1998):
            paper = ("split", parts, tuple(("held", k % 2) for k in range(parts)))
            with Clock(self):
                self.assertIs(paper_holds(lot, paper), True)
                self.assertEqual(paper_size(paper), parts)
        self.assertIs(paper_holds(lot, ("split", 3, tuple(("held", k % 2) for k in range(3)))), False)

    def test_papers_are_for_lots_that_leave_no_day_open(self):
        for lot in EDGES + small_lots(60):
            if next_open(lot, 0) is not None:
                for paper in (E_PAPER, ("held", 0), split_paper(T), round_paper(T)):
                    self.assertIs(paper_holds(lot, paper), False)


if __name__ == "__main__":
    unittest.main()
