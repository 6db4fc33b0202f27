"""[N1], [N2], [N3], [N4]: module boards; [A2] (h) so far as it speaks of boards."""

import copy
import random
import unittest

from daywatches.boards import Board, HeldBoard
from daywatches.bounds import BATCH, MAX_EDITS, MAX_TURN, MAX_WATCHES
from daywatches.errors import (
    BadBatch, BadLot, Busy, NoDay, NoParts, NothingToUndo, NoTurn, NoVersion, NoWatch, Open, Rejected, TooLong,
    TooMany, TooManyEdits, WatchError,
)
from daywatches.forms import lot_error
from daywatches.texts import lot_text, parse_lot
from tests.lots import (
    COPRIME, DOUBLED, EDGES, HALVES, LAST_OPEN, LONG, NONE_OPEN, PRIMES, Clock, E, T, slow_round, slow_split,
    slow_tally, small_lots,
)
from tests.values import ANY_VALUES, NOT_INTEGERS

EIGHTEEN = 10 ** 18 - 1
HALF = ((2, 0), (2, 1))


class Own(Exception):
    """What on_step raises in these tests."""


def is_integer(value, least, most):
    return type(value) is int and least <= value <= most


def slow_open_day(lot):
    """The least open day from 0 on, None if there is none."""
    for day in range(min(slow_round(lot), 2 ** len(lot) + 1)):
        if slow_tally(lot, day) == 0:
            return day
    return None


def no_watch(lot, index):
    if not is_integer(index, 0, len(lot) - 1):
        raise NoWatch(index)


def no_day(day):
    if not is_integer(day, -EIGHTEEN, EIGHTEEN):
        raise NoDay(day)


def slow_edit(lot, item):
    """The lot behind the edit, as [N2] says it."""
    word, *given = item
    if word == "add":
        turn, day = given
        if not is_integer(turn, 1, MAX_TURN):
            raise NoTurn(turn)
        no_day(day)
        if len(lot) == MAX_WATCHES:
            raise TooMany(MAX_WATCHES)
        return lot + ((turn, day % turn),)
    no_watch(lot, given[0])
    index = given[0]
    if word == "drop":
        return lot[:index] + lot[index + 1:]
    if word == "move":
        no_day(given[1])
        turn = lot[index][0]
        return lot[:index] + ((turn, given[1] % turn),) + lot[index + 1:]
    if not is_integer(given[1], 2, MAX_WATCHES):
        raise NoParts(given[1])
    if len(lot) - 1 + given[1] > MAX_WATCHES:
        raise TooMany(MAX_WATCHES)
    if lot[index][0] * given[1] > MAX_TURN:
        raise TooLong(lot[index][0] * given[1])
    return slow_split(lot, index, given[1])


def call(board, item):
    """Do the edit, or undo, by the method."""
    return getattr(board, item[0])(*item[1:])


class Model:
    """What a board should be: all its lots, the one that stands now behind the others."""

    def __init__(self, lot, held):
        self.lots = [lot]
        self.held = held

    def do(self, item):
        """Do the edit, or raise what the board should raise."""
        if item[0] == "undo":
            if len(self.lots) == 1:
                raise NothingToUndo()
            self.lots.pop()
            return len(self.lots) - 1
        if len(self.lots) > MAX_EDITS:
            raise TooManyEdits()
        lot = slow_edit(self.lots[-1], item)
        if self.held and slow_open_day(lot) is not None:
            raise Open(slow_open_day(lot))
        self.lots.append(lot)
        return len(self.lots) - 1


def random_item(source, lot, wild=0.25):
    """An edit, mostly one that can be done."""
    index = source.randrange(len(lot)) if lot else 0
    day = source.choice([source.randint(-9, 9), source.randint(-9, 9), EIGHTEEN, -EIGHTEEN])
    turn = source.choice([1, 2, 2, 3, 4, 6, 8, 12])
    if source.random() < wild:
        index = source.choice([-1, len(lot), len(lot) + 1, True, False, None, "0", 10 ** 40, (0,), [0]])
    if source.random() < wild / 2:
        day = source.choice([None, True, "1", 10 ** 18, -(10 ** 18), 10 ** 40, (1,), [], {}])
    if source.random() < wild / 2:
        turn = source.choice([0, -1, MAX_TURN + 1, None, True, "2", (2,), {}])
    parts = source.choice([2, 2, 2, 3, 4, 10, 11, 1, 0, -2, True, None, "2", 10 ** 40] if wild else [2, 2, 3])
    return source.choice([
        ("add", turn, day), ("add", turn, day), ("drop", index), ("move", index, day), ("split", index, parts),
        ("split", index, parts),
    ])


class BoardCase(unittest.TestCase):
    def check(self, board, lots):
        """The board is as the lots tell that it came through, the last one being its own."""
        lot = lots[-1]
        self.assertEqual([board.lot, board.version, len(board)], [lot, len(lots) - 1, len(lot)])
        self.assertIs(type(board.version), int)
        self.assertIsNone(lot_error(board.lot))
        self.assertEqual([board.at(version) for version in range(len(lots))], lots)
        self.assertEqual([board[index] for index in range(len(lot))], list(lot))
        self.assertEqual([list(board), str(board)], [list(lot), lot_text(lot)])

    def raises(self, made, done, *given):
        """The error of this very class that the call raises."""
        with self.assertRaises(made) as caught:
            done(*given)
        self.assertIs(type(caught.exception), made)
        return caught.exception

    def refused(self, error, done, *given):
        """The call raises an error like this one."""
        self.assertEqual(vars(self.raises(type(error), done, *given)), vars(error))


class DocExamples(BoardCase):
    def test_board(self):
        b = Board(((2, 0),))
        told = [b.add(4, 9), b.split(0, 2), b.lot, len(b), 2 in b, 3 in b, bool(b), b[2], str(b)]
        lot = ((4, 0), (4, 2), (4, 1))
        self.assertEqual(told, [1, 2, lot, 3, True, False, False, (4, 1), "4:0 4:2 4:1"])
        told = [b.attempt((("add", 4, 3), ("drop", 0)), None), b.undo(), bool(b), b.at(0), b.copy() == b]
        self.assertEqual(told, [4, 3, True, ((2, 0),), True])
        self.refused(Rejected(1), b.attempt, [("drop", 0), ("drop", 9)], None)

    def test_held_board(self):
        h = HeldBoard(((2, 0), (2, 1)))
        self.refused(Open(0), h.move, 0, 1)


class MadeTest(BoardCase):
    def test_any_value(self):
        values = ANY_VALUES + [
            ((2, 2),), ((2, 0), (3, 3)), ((0, 0),), ((2, 0),) * 11, [(2, 0)], ((2, 0), [2, 0]), ((True, 0),),
            ((2, False),), ((MAX_TURN + 1, 0),), (None,), ((2, 0), ()), Board(E), (Board(E),),
        ]
        for made in (Board, HeldBoard):
            for value in values:
                error = lot_error(value)
                if error is not None:
                    before = copy.deepcopy(value)
                    self.refused(BadLot(error), made, value)
                    self.assertEqual(value, before)

    def test_lots(self):
        for lot in EDGES + LONG + small_lots(60):
            board = Board(lot)
            self.check(board, [lot])
            self.assertIs(bool(board), slow_open_day(lot) is None)
            if slow_open_day(lot) is None:
                self.check(HeldBoard(lot), [lot])
            else:
                self.refused(Open(slow_open_day(lot)), HeldBoard, lot)
        self.check(Board(lot=E), [E])
        self.check(HeldBoard(lot=E), [E])

    def test_properties_can_only_be_read(self):
        for board in (Board(E), HeldBoard(E)):
            with self.assertRaises(AttributeError):
                board.lot = ()
            with self.assertRaises(AttributeError):
                board.version = 3
            with self.assertRaises(AttributeError):
                del board.lot
            with self.assertRaises(AttributeError):
                del board.version
            self.check(board, [E])


class ReadTest(BoardCase):
    def test_indexes(self):
        for lot in ((), ((1, 0),), E, DOUBLED):
            board = Board(lot)
            values = ANY_VALUES + [-1, -len(lot), len(lot), len(lot) + 1, slice(0, 1), board]
            for index in values:
                if is_integer(index, 0, len(lot) - 1):
                    self.assertEqual(board[index], lot[index])
                    continue
                self.assertIs(self.raises(NoWatch, board.__getitem__, index).given, index)

    def test_days(self):
        for lot in ((), ((1, 0),), T, ((2, 0), (3, 1)), DOUBLED, COPRIME):
            board = Board(lot)
            for value in ANY_VALUES + list(range(-15, 15)) + [EIGHTEEN, -EIGHTEEN, 10 ** 18, -(10 ** 18), board]:
                wanted = is_integer(value, -EIGHTEEN, EIGHTEEN) and slow_tally(lot, value) > 0
                self.assertIs(value in board, wanted)
        self.assertIs(True in Board(((1, 0),)), False)
        self.assertIs((1, 0) in Board(((1, 0),)), False)
        self.assertIs(10 ** 18 in Board(((1, 0),)), False)

    def test_whether_no_day_is_open(self):
        for lot, wanted in ((NONE_OPEN, True), (LAST_OPEN, False), (DOUBLED, False), (HALVES, True), (PRIMES, False)):
            with Clock(self):
                self.assertIs(bool(Board(lot)), wanted)
        self.assertIs(bool(Board(())), False)

    def test_iteration(self):
        board = Board(T)
        self.assertEqual([list(board), tuple(board), sorted(board)], [list(T), T, sorted(T)])
        self.assertEqual([one for one in board for _ in board], [one for one in T for _ in T])
        made = iter(board)
        self.assertEqual([next(made), next(made)], [T[0], T[1]])
        board.drop(0)
        self.assertEqual([list(made), list(board)], [list(T[2:]), list(T[1:])])

    def test_texts_are_read_back(self):
        for lot in EDGES + LONG:
            self.assertEqual(Board(parse_lot(str(Board(lot)))), Board(lot))
        self.assertEqual(str(Board(())), "none")

    def test_equal_boards(self):
        one, other = Board(E), Board(E)
        self.assertTrue(one == other and not one != other)
        self.assertTrue(one == HeldBoard(E) and HeldBoard(E) == one and HeldBoard(E) == HeldBoard(E))
        self.assertFalse(one == Board(E[::-1]) or HeldBoard(E) == Board(E[::-1]) or one == Board(()))
        self.assertTrue(one != Board(E[::-1]))
        for value in ANY_VALUES + [E, list(E), str(one), None, {E: one}, (one,)]:
            for board in (one, HeldBoard(E), Board(())):
                self.assertIs(board == value, False)
                self.assertIs(value == board, False)
                self.assertIs(board != value, True)
        other.add(2, 0)
        self.assertFalse(one == other)
        other.undo()
        self.assertTrue(one == other)
        other.move(0, 2)
        self.assertEqual([one == other, one.version, other.version], [True, 0, 1])


class EditsTest(BoardCase):
    def test_add(self):
        board = Board(())
        self.assertEqual([board.add(4, 9), board.add(4, -1), board.add(1, EIGHTEEN)], [1, 2, 3])
        self.assertEqual(board.add(MAX_TURN, -EIGHTEEN), 4)
        self.assertEqual(board.add(day=7, turn=5), 5)
        lot = ((4, 1), (4, 3), (1, 0), (MAX_TURN, -EIGHTEEN % MAX_TURN), (5, 2))
        self.check(board, [lot[:many] for many in range(6)])

    def test_drop(self):
        board = Board(T)
        self.assertEqual([board.drop(4), board.drop(0), board.drop(index=1)], [1, 2, 3])
        self.check(board, [T, T[:4], T[1:4], (T[1], T[3])])

    def test_move(self):
        board = Board(E)
        self.assertEqual([board.move(0, 5), board.move(1, -1), board.move(day=EIGHTEEN, index=2)], [1, 2, 3])
        last = ((2, 1), (4, 3), (4, EIGHTEEN % 4))
        self.check(board, [E, ((2, 1),) + E[1:], ((2, 1), (4, 3), E[2]), last])
        self.assertEqual(board.move(0, -EIGHTEEN), 4)

    def test_split(self):
        board = Board(((2, 1), (3, 0)))
        self.assertEqual([board.split(0, 2), board.split(parts=3, index=2)], [1, 2])
        first = ((4, 1), (4, 3), (3, 0))
        self.check(board, [((2, 1), (3, 0)), first, first[:2] + ((9, 0), (9, 3), (9, 6))])

    def test_any_values(self):
        values = ANY_VALUES + [2, 3, 9, 10, 11, MAX_TURN, MAX_TURN + 1, EIGHTEEN, EIGHTEEN + 1, -EIGHTEEN - 1, Board(E)]
        for lot in ((), ((1, 0),), E, ((2, 0),) * 9, DOUBLED):
            for value in values:
                for item in (
                    ("add", value, 3), ("add", 3, value), ("drop", value), ("move", value, 0), ("move", 0, value),
                    ("split", value, 2), ("split", 0, value), ("add", value, value), ("move", value, value),
                    ("split", value, value),
                ):
                    self.check_item(lot, item)

    def check_item(self, lot, item):
        board = Board(lot)
        before = copy.deepcopy(item[1:]) if not isinstance(item[-1], Board) else None
        try:
            wanted = slow_edit(lot, item)
        except WatchError as error:
            raised = self.raises(type(error), call, board, item)
            for name, worth in vars(error).items():
                if type(worth) is not int:
                    self.assertIs(getattr(raised, name), worth)
                self.assertEqual(getattr(raised, name), worth)
            self.check(board, [lot])
        else:
            self.assertEqual(call(board, item), 1)
            self.check(board, [lot, wanted])
        if before is not None:
            self.assertEqual(item[1:], before)

    def test_which_error_goes_first(self):
        full, great = Board(((MAX_TURN, 0),) * 10), Board(((MAX_TURN, 0), (1, 0)))
        for board, item, error in (
            (full, ("add", 0, None), NoTurn(0)), (full, ("add", True, 10 ** 18), NoTurn(True)),
            (full, ("add", 1, 10 ** 18), NoDay(10 ** 18)), (full, ("add", 1, True), NoDay(True)),
            (full, ("add", 1, 0), TooMany(10)), (full, ("move", 10, None), NoWatch(10)),
            (full, ("move", 9, None), NoDay(None)), (full, ("split", -1, 1), NoWatch(-1)),
            (full, ("split", 9, 1), NoParts(1)), (full, ("split", 9, 11), NoParts(11)),
            (full, ("split", 9, 2), TooMany(10)), (great, ("split", 0, 10), TooMany(10)),
            (great, ("split", 0, 9), TooLong(9 * MAX_TURN)), (great, ("split", 0, 11), NoParts(11)),
            (great, ("split", 2, 2), NoWatch(2)), (great, ("drop", 2), NoWatch(2)),
        ):
            self.refused(error, call, board, item)
            self.assertEqual(board.version, 0)

    def test_number_of_edits(self):
        board = Board(())
        lots = [()]
        for many in range(MAX_EDITS):
            self.assertEqual(board.add(2, many) if many % 2 == 0 else board.drop(0), many + 1)
            lots.append(((2, 0),) if many % 2 == 0 else ())
        for item in (
            ("add", 2, 0), ("add", None, None), ("drop", 0), ("drop", None), ("move", 0, 0), ("move", None, None),
            ("split", 0, 2), ("split", None, None),
        ):
            self.refused(TooManyEdits(), call, board, item)
        self.check(board, lots)
        self.assertEqual([board.undo(), board.add(3, 4)], [MAX_EDITS - 1, MAX_EDITS])
        self.check(board, lots[:-1] + [lots[-2] + ((3, 1),)])
        self.refused(TooManyEdits(), board.drop, 0)

    def test_undo(self):
        board = Board(E)
        self.refused(NothingToUndo(), board.undo)
        board.drop(0)
        board.add(2, 0)
        self.assertEqual(board.undo(), 1)
        self.check(board, [E, E[1:]])
        self.assertEqual([board.split(0, 2), board.undo(), board.undo()], [2, 1, 0])
        self.check(board, [E])
        self.refused(NothingToUndo(), board.undo)
        self.check(board, [E])

    def test_versions(self):
        board = Board(E)
        board.drop(2)
        board.drop(1)
        self.assertEqual([board.at(0), board.at(1), board.at(version=2)], [E, E[:2], E[:1]])
        for version in NOT_INTEGERS + [-1, 3, 4, 10 ** 40, -(10 ** 40), board]:
            self.assertIs(self.raises(NoVersion, board.at, version).given, version)
        board.undo()
        self.refused(NoVersion(2), board.at, 2)
        board.add(7, 7)
        self.check(board, [E, E[:2], E[:2] + ((7, 0),)])
        self.refused(NoVersion(1), Board(E).at, 1)

    def test_copies(self):
        board = Board(E)
        board.drop(2)
        other = board.copy()
        self.assertIs(type(other), Board)
        self.assertEqual(other, board)
        self.check(other, [E, E[:2]])
        other.drop(0)
        board.undo()
        self.check(other, [E, E[:2], E[1:2]])
        self.check(board, [E])
        self.assertEqual([other.undo(), other.undo()], [1, 0])
        self.check(other, [E])
        self.refused(NothingToUndo(), other.undo)
        held = HeldBoard(E).copy()
        self.assertIs(type(held), HeldBoard)
        self.refused(Open(0), held.drop, 0)
        held.add(2, 0)
        self.assertIs(type(held.copy().copy()), HeldBoard)
        self.check(held.copy(), [E, E + ((2, 0),)])

    def test_as_many_edits_stand_in_a_copy(self):
        board = Board(((2, 0),))
        for day in range(MAX_EDITS):
            board.move(0, day)
        other = board.copy()
        self.refused(TooManyEdits(), other.move, 0, 1)
        other.undo()
        self.assertEqual([other.move(0, 1), board.version], [MAX_EDITS, MAX_EDITS])

    def test_against_a_list_of_lots(self):
        source = random.Random(91)
        reached = {}
        for made in (Board, HeldBoard):
            for begin in ((), ((1, 0),), E, T, HALF, ((1, 0), (2, 0))):
                if made is HeldBoard and begin == ():
                    continue
                for _ in range(15):
                    model, board = Model(begin, made is HeldBoard), made(begin)
                    for _ in range(60):
                        item = random_item(source, model.lots[-1])
                        if source.random() < 0.1:
                            item = ("undo",)
                        try:
                            wanted = model.do(item)
                        except WatchError as error:
                            self.refused(error, call, board, item)
                            reached[type(error)] = True
                        else:
                            self.assertEqual(call(board, item), wanted)
                        self.check(board, model.lots)
                    while len(model.lots) > 1:
                        self.assertEqual(board.undo(), model.do(("undo",)))
                        self.check(board, model.lots)
                    self.assertEqual(board, made(begin))
        errors = {NoTurn, NoDay, NoWatch, NoParts, TooMany, TooManyEdits, NothingToUndo, Open}
        self.assertEqual(set(reached) & errors, errors)


class AttemptTest(BoardCase):
    def test_no_batch(self):
        for board in (Board(E), HeldBoard(E)):
            values = [value for value in ANY_VALUES if not isinstance(value, (tuple, list)) or len(value) > BATCH]
            values += [{0: ("drop", 0)}, "drop", board, (None,) * 13, [("move", 0, 0)] * 13, range(3), iter([])]
            for batch in values:
                called = []
                self.refused(BadBatch(), board.attempt, batch, called.append)
                self.refused(BadBatch(), board.attempt, batch, None)
                self.assertEqual(called, [])
                self.check(board, [E])

    def test_as_many_items_as_may_be(self):
        for many in (0, 1, BATCH - 1, BATCH):
            for kind in (tuple, list):
                board, called = Board(E), []
                batch = kind(("move", 0, day) for day in range(many))
                self.assertEqual(board.attempt(batch, called.append), many)
                self.assertEqual(called, [board] * many)
                self.check(board, [E] + [((2, day % 2),) + E[1:] for day in range(many)])
        self.assertEqual(Board(E).attempt(on_step=None, batch=[]), 0)

    def test_all_edits(self):
        board = Board(E)
        batch = [("add", 4, 9), ("drop", 0), ("move", 0, 2), ("split", 1, 2)]
        lots = [E, E + ((4, 1),), E[1:] + ((4, 1),), ((4, 2), (4, 3), (4, 1)), ((4, 2), (8, 3), (8, 7), (4, 1))]
        seen = []
        self.assertEqual(board.attempt(batch, lambda b: seen.append((b is board, b.lot, b.version))), 4)
        self.assertEqual(seen, [(True, lot, version) for version, lot in enumerate(lots) if version > 0])
        self.check(board, lots)
        self.assertEqual([board.undo(), board.undo()], [3, 2])
        self.check(board, lots[:3])

    def test_wrong_items_at_each_place(self):
        wrong = ANY_VALUES + [
            ("drop",), ("drop", 0, 0), ("add", 2), ("add", 2, 0, 0), ("move", 0), ("move", 0, 0, 0), ("split", 0),
            ("split", 0, 2, 2), ["drop", 0], ["move", 0, 0], ("undo",), ("Drop", 0), ("drop ", 0), (None, 0),
            (("drop",), 0), ("at", 0), ("copy",), ("attempt", (), None), (0, "drop"), ("drop", 9), ("drop", True),
            ("add", 0, 0), ("add", 2, None), ("move", -1, 0), ("move", 0, "0"), ("split", 0, 1), ("split", 9, 2),
            ("split", 0, 10), {"drop": 0}, "drop", (), (("drop", 0),), ("add", "2", "0"), Board(E), (Board(E), 0),
            ("drop", Board(E)), ("lot",), ("refuse", 0), ("edit", ("drop", 0)), ("fresh",), ("go_on", ()),
        ]
        for item in wrong:
            for place in (0, 1, 2, 5, BATCH - 1):
                batch = [("move", 0, day) for day in range(place)] + [item]
                batch += [("move", 0, 0)] * min(2, BATCH - len(batch))
                for board in (Board(E + ((2, 0),)), HeldBoard(E + ((2, 0),))):
                    before = [board.lot, board.version]
                    called = []
                    with self.subTest(item=str(item)[:60], place=place):
                        self.refused(Rejected(place), board.attempt, tuple(batch), lambda b: called.append(b.version))
                        self.assertEqual(called, list(range(1, place + 1)))
                        self.check(board, [before[0]])

    def test_items_are_looked_at_one_behind_another(self):
        board = Board(())
        self.assertEqual(board.attempt([("add", 2, 0), ("drop", 0), ("add", 3, 1), ("split", 0, 3)], None), 4)
        self.refused(Rejected(1), board.attempt, [("drop", 0), ("drop", 2), "what", ("drop", 0)], None)
        self.refused(Rejected(2), board.attempt, [("drop", 0), ("drop", 1), ("drop", 1)], None)
        self.refused(Rejected(0), board.attempt, ["what", ("drop", 9)], None)
        self.assertEqual(board.lot, ((9, 1), (9, 4), (9, 7)))

    def test_too_many_edits(self):
        board = Board(E)
        for day in range(MAX_EDITS - 2):
            board.move(0, day)
        lots = [board.at(version) for version in range(board.version + 1)]
        self.refused(Rejected(2), board.attempt, [("move", 0, 0)] * 3, None)
        self.check(board, lots)
        self.assertEqual(board.attempt([("move", 0, 0)] * 2, None), MAX_EDITS)
        lots += [((2, 0),) + E[1:]] * 2
        self.check(board, lots)
        self.refused(Rejected(0), board.attempt, [("move", 0, 0)], None)
        self.refused(BadBatch(), board.attempt, None, None)
        self.assertEqual(board.attempt([], None), MAX_EDITS)
        self.check(board, lots)

    def test_held_boards(self):
        board = HeldBoard(HALF)
        self.refused(Rejected(0), board.attempt, [("drop", 0), ("add", 2, 0)], None)
        self.check(board, [HALF])
        self.assertEqual(board.attempt([("add", 2, 0), ("drop", 0)], None), 2)
        self.check(board, [HALF, HALF + ((2, 0),), HALF[1:] + ((2, 0),)])
        self.refused(Rejected(1), board.attempt, [("split", 0, 2), ("move", 0, 3)], None)
        self.assertEqual(board.version, 2)
        other = Board(HALF)
        self.assertEqual(other.attempt([("drop", 0), ("add", 2, 0)], None), 2)

    def test_all_is_refused_while_on_step_runs(self):
        for board in (Board(E + ((2, 0),)), HeldBoard(E + ((2, 0),))):
            lot = board.lot
            tried = []

            def on_step(now):
                self.assertIs(now, board)
                for item in (
                    ("add", 2, 0), ("add", None, None), ("drop", 3), ("drop", None), ("move", 0, 0), ("move", 9, None),
                    ("split", 0, 2), ("split", None, 0), ("undo",), ("attempt", [], None), ("attempt", None, None),
                    ("attempt", [("drop", 3)], on_step),
                ):
                    self.refused(Busy(), call, board, item)
                tried.append((board.lot, board.version, list(board), board.at(0)))
                self.refused(NoVersion(3), board.at, 3)
                self.refused(NoWatch(99), board.__getitem__, 99)

            self.assertEqual(board.attempt([("move", 3, 1), ("move", 3, 2)], on_step), 2)
            lots = [lot, E + ((2, 1),), E + ((2, 0),)]
            self.assertEqual(tried, [(lots[k], k, list(lots[k]), lot) for k in (1, 2)])
            self.check(board, lots)
            self.assertEqual([board.undo(), board.add(2, 5)], [1, 2])

    def test_busy_goes_ahead_of_too_many_edits(self):
        board = Board(E)
        for day in range(MAX_EDITS - 1):
            board.move(0, day)

        def on_step(now):
            self.assertEqual(now.version, MAX_EDITS)
            for item in (("add", 2, 0), ("drop", 0), ("move", 0, 0), ("split", 0, 2), ("undo",), ("attempt", 0, 0)):
                self.refused(Busy(), call, now, item)

        self.assertEqual(board.attempt([("move", 0, 0)], on_step), MAX_EDITS)
        self.refused(TooManyEdits(), board.move, 0, 0)

    def test_copies_that_are_made_on_the_way(self):
        for made in (Board, HeldBoard):
            board, copies = made(HALF), []

            def on_step(now):
                other = now.copy()
                self.assertIs(type(other), made)
                self.assertEqual([other.lot, other.version], [now.lot, now.version])
                self.assertEqual(other.add(3, now.version), now.version + 1)
                self.assertEqual(other.attempt([("drop", len(other) - 1)], None), now.version + 2)
                copies.append(other)

            with self.assertRaises(Rejected):
                board.attempt([("add", 2, 0), ("add", 2, 1), ("add", 0, 0)], on_step)
            self.check(board, [HALF])
            lots = [HALF, HALF + ((2, 0),), HALF + ((2, 0), (2, 1))]
            self.check(copies[0], lots[:2] + [lots[1] + ((3, 1),), lots[1]])
            self.check(copies[1], lots + [lots[2] + ((3, 2),), lots[2]])

    def test_other_boards_are_not_busy(self):
        board, other = Board(E), Board(E)

        def on_step(now):
            other.move(0, 1)
            other.attempt([("drop", 0)], lambda b: self.refused(Busy(), board.drop, 0))

        board.attempt([("drop", 0)], on_step)
        self.check(other, [E, ((2, 1),) + E[1:], E[1:]])
        self.check(board, [E, E[1:]])

    def test_the_batch_as_it_is_at_the_call(self):
        board = Board(())
        batch = [("add", 2, 0), ("add", 3, 0), ("add", 4, 0)]

        def on_step(now):
            batch.append(("drop", 9))
            batch[1] = batch[2] = None

        self.assertEqual(board.attempt(batch, on_step), 3)
        self.assertEqual(board.lot, ((2, 0), (3, 0), (4, 0)))
        self.assertEqual(batch, [("add", 2, 0), None, None] + [("drop", 9)] * 3)

        def empty(now):
            batch.clear()

        batch = [("drop", 0), ("drop", 0)]
        self.assertEqual(board.attempt(batch, empty), 5)
        self.assertEqual([board.lot, batch], [((4, 0),), []])

    def test_what_is_passed_is_never_changed(self):
        batch = [("add", 2, 0), ("drop", 0), ["drop", [0]], {1: 2}]
        before = copy.deepcopy(batch)
        self.refused(Rejected(2), Board(()).attempt, batch, None)
        self.assertEqual(batch, before)

    def test_what_on_step_raises(self):
        for error in (Own("x"), Rejected(7), Busy(), TooManyEdits(), NoWatch(3), Open(5), KeyError(1), SystemExit(2),
                      KeyboardInterrupt(), ValueError("y")):
            for at in (1, 2, 3):
                for board in (Board(E), HeldBoard(E)):
                    board.add(2, 5)
                    lots = [E, E + ((2, 1),)]
                    called = []

                    def on_step(now):
                        called.append(now.version)
                        if len(called) == at:
                            raise error

                    with self.assertRaises(type(error)) as caught:
                        board.attempt([("move", 3, 0), ("add", 3, 0), ("drop", 4)], on_step)
                    self.assertIs(caught.exception, error)
                    self.assertEqual(called, [2, 3, 4][:at])
                    self.check(board, lots)
                    self.assertEqual([board.drop(3), board.undo(), board.undo()], [2, 1, 0])
                    self.refused(NothingToUndo(), board.undo)

    def test_edits_that_on_step_does_not_catch(self):
        for done in (lambda b: b.drop(0), lambda b: b.undo(), lambda b: b.attempt([], None)):
            board = Board(E)
            self.refused(Busy(), board.attempt, [("drop", 0), ("drop", 0)], done)
            self.check(board, [E])
            self.assertEqual(board.drop(0), 1)

    def test_what_on_step_returns_does_not_matter(self):
        for answer in (None, False, True, 0, "stop", Rejected(0)):
            board = Board(E)
            self.assertEqual(board.attempt([("drop", 0), ("drop", 0)], lambda b: answer), 2)

    def test_against_a_list_of_lots(self):
        source = random.Random(92)
        done = {True: 0, False: 0}
        for made in (Board, HeldBoard):
            for _ in range(150):
                model, board = Model(E, made is HeldBoard), made(E)
                for _ in range(6):
                    batch, trial, wrong = [], Model(None, model.held), None
                    trial.lots = list(model.lots)
                    for place in range(source.randint(0, 6)):
                        item = random_item(source, trial.lots[-1], source.choice([0, 0, 0.1]))
                        batch.append(item)
                        if wrong is None:
                            try:
                                trial.do(item)
                            except WatchError:
                                wrong = place
                    seen = []
                    batch = source.choice([tuple, list])(batch)
                    if wrong is None:
                        told = board.attempt(batch, lambda b: seen.append(b.lot))
                        self.assertEqual(told, len(trial.lots) - 1)
                        self.assertEqual(seen, trial.lots[len(model.lots):])
                        model = trial
                    else:
                        self.refused(Rejected(wrong), board.attempt, batch, lambda b: seen.append(b.lot))
                        self.assertEqual(len(seen), wrong)
                    done[wrong is None] += 1
                    self.check(board, model.lots)
                    for _ in range(source.randint(0, 2)):
                        if len(model.lots) > 1:
                            self.assertEqual(board.undo(), model.do(("undo",)))
                            self.check(board, model.lots)
        self.assertGreater(min(done.values()), 200)


class HeldBoardTest(BoardCase):
    def test_it_is_a_board(self):
        self.assertTrue(issubclass(HeldBoard, Board))
        self.assertIsInstance(HeldBoard(E), Board)

    def test_bad_lots_go_ahead_of_open_ones(self):
        self.refused(BadLot((1, "turn")), HeldBoard, ((2, 0), (0, 0)))
        self.refused(BadLot((None, "lot")), HeldBoard, [])
        self.refused(Open(0), HeldBoard, ())
        self.refused(Open(1), HeldBoard, ((2, 0),))
        self.refused(Open(1023), HeldBoard, DOUBLED)
        self.refused(Open(511), HeldBoard, LAST_OPEN)
        self.check(HeldBoard(NONE_OPEN), [NONE_OPEN])
        self.check(HeldBoard(HALVES), [HALVES])

    def test_other_errors_go_ahead_of_open(self):
        board = HeldBoard(HALF)
        for item, error in (
            (("drop", 2), NoWatch(2)), (("drop", True), NoWatch(True)), (("move", 0, None), NoDay(None)),
            (("move", 2, 1), NoWatch(2)), (("drop", 0), Open(0)), (("drop", 1), Open(1)), (("move", 0, 3), Open(0)),
            (("move", 1, 2), Open(1)), (("split", 0, 1), NoParts(1)), (("add", 0, 0), NoTurn(0)),
        ):
            self.refused(error, call, board, item)
            self.check(board, [HALF])
        full = HeldBoard(NONE_OPEN)
        self.refused(TooMany(10), full.add, 1, 0)
        self.refused(Open(511), full.drop, 9)
        self.refused(Open(511), full.move, 9, 0)
        self.refused(Open(0), full.drop, 0)
        for day in range(MAX_EDITS):
            board.move(0, 2 * day)
        self.refused(TooManyEdits(), board.drop, 0)

    def test_edits_that_leave_no_day_open(self):
        board = HeldBoard(HALF)
        self.assertEqual([board.add(MAX_TURN, 5), board.split(0, 4), board.drop(5), board.move(0, 8)], [1, 2, 3, 4])
        self.assertIs(bool(board), True)
        while board.version > 0:
            board.undo()
        self.check(board, [HALF])

    def test_short_time(self):
        with Clock(self):
            board = HeldBoard(HALVES[:9])
            for day in range(10):
                board.move(4, day)
                board.copy()
                bool(board)


if __name__ == "__main__":
    unittest.main()
