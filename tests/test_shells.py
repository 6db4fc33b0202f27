"""[N5]: module shells."""

import copy
import random
import unittest

from daywatches.boards import Board, HeldBoard
from daywatches.bounds import HISTORY, MAX_EDITS, MAX_TURN
from daywatches.days import next_open
from daywatches.errors import Rejected, WatchError
from daywatches.shells import Shell
from daywatches.texts import lot_text
from tests.lots import (
    COPRIME, DOUBLED, HALVES, LAST_OPEN, NONE_OPEN, Clock, E, T, slow_tally, small_lots,
)
from tests.values import ANY_VALUES

HALF = ((2, 0), (2, 1))
EIGHTEEN = 10 ** 18 - 1


class DocExamples(unittest.TestCase):
    def test_examples(self):
        h = HeldBoard(HALF)
        s = Shell(h)
        told = [s.say("split 1 3"), s.say("lot"), s.say("open"), s.say("tally -1"), s.say("drop 0"), s.say("add 0 0")]
        self.assertEqual(told, ["ok 1", "2:0 6:1 6:3 6:5", "none", "held 1", "no Open", "no NoTurn"])
        self.assertEqual([s.say("next 05"), s.history[1]], ["what", ("lot", "2:0 6:1 6:3 6:5")])


class ShellCase(unittest.TestCase):
    def said(self, shell, *pairs):
        """Each line gets its answer."""
        for line, answer in pairs:
            told = shell.say(line)
            self.assertIs(type(told), str)
            self.assertEqual(told, answer, line)


class EditsTest(ShellCase):
    def test_edits(self):
        board = Board(())
        shell = Shell(board)
        self.said(
            shell, ("add 4 9", "ok 1"), ("add 2 -1", "ok 2"), ("lot", "4:1 2:1"), ("split 1 3", "ok 3"),
            ("lot", "4:1 6:1 6:3 6:5"), ("move 0 7", "ok 4"), ("drop 3", "ok 5"), ("lot", "4:3 6:1 6:3"),
            ("undo", "ok 4"), ("undo", "ok 3"), ("lot", "4:1 6:1 6:3 6:5"), ("drop 0", "ok 4"), ("undo", "ok 3"),
            ("undo", "ok 2"), ("undo", "ok 1"), ("undo", "ok 0"), ("lot", "none"), ("undo", "no NothingToUndo"),
            ("add 1000000000000 -999999999999999999", "ok 1"), ("add 1 999999999999999999", "ok 2"),
        )
        self.assertEqual(board.lot, ((MAX_TURN, 1), (1, 0)))
        self.assertEqual(board.version, 2)

    def test_errors(self):
        board = Board(((MAX_TURN, 0),) * 2)
        shell = Shell(board)
        self.said(
            shell, ("add 0 0", "no NoTurn"), ("add -1 0", "no NoTurn"), ("add 1000000000001 0", "no NoTurn"),
            ("drop 2", "no NoWatch"), ("drop -1", "no NoWatch"), ("move 2 0", "no NoWatch"),
            ("split 2 2", "no NoWatch"),
            ("split 0 1", "no NoParts"), ("split 0 11", "no NoParts"), ("split 0 -2", "no NoParts"),
            ("split 0 10", "no TooMany"), ("split 0 9", "no TooLong"), ("undo", "no NothingToUndo"),
        )
        self.assertEqual([board.version, board.lot], [0, ((MAX_TURN, 0),) * 2])
        for many in range(MAX_EDITS):
            self.said(shell, (f"move 0 {many}", f"ok {many + 1}"))
        self.said(
            shell, ("move 0 0", "no TooManyEdits"), ("add 0 0", "no TooManyEdits"), ("drop 9", "no TooManyEdits"),
            ("undo", "ok 29"), ("drop 9", "no NoWatch"),
        )
        full = Shell(Board(((1, 0),) * 10))
        self.said(full, ("add 1 0", "no TooMany"), ("add 0 0", "no NoTurn"), ("split 0 2", "no TooMany"))

    def test_held_boards(self):
        shell = Shell(HeldBoard(HALF))
        self.said(
            shell, ("drop 0", "no Open"), ("move 0 1", "no Open"), ("add 3 2", "ok 1"), ("drop 2", "ok 2"),
            ("split 1 9", "ok 3"), ("split 0 2", "no TooMany"), ("open", "none"), ("undo", "ok 2"),
        )

    def test_busy(self):
        board = Board(E)
        shell = Shell(board)
        told = []

        def on_step(now):
            for line in ("add 2 0", "drop 0", "drop 99", "move 0 0", "split 0 2", "undo", "lot", "tally 0", "what"):
                told.append(shell.say(line))

        board.attempt([("drop", 0)], on_step)
        self.assertEqual(told, ["no Busy"] * 6 + ["4:1 4:3", "held 0", "what"])
        self.said(shell, ("undo", "ok 0"), ("lot", "2:0 4:1 4:3"))

    def test_a_batch_that_says_lines(self):
        board = Board(E)
        shell = Shell(board)
        with self.assertRaises(Rejected):
            board.attempt([("drop", 0), ("drop", 9)], lambda now: shell.say("lot"))
        self.assertEqual(shell.history, (("lot", "4:1 4:3"),))
        self.said(shell, ("lot", "2:0 4:1 4:3"))

    def test_two_shells_on_one_board(self):
        board = Board(E)
        one, other = Shell(board), Shell(board)
        self.said(one, ("drop 0", "ok 1"))
        self.said(other, ("lot", "4:1 4:3"), ("drop 0", "ok 2"))
        board.drop(0)
        self.said(one, ("lot", "none"), ("undo", "ok 2"), ("lot", "4:3"))
        self.assertIs(one.board, other.board)
        self.assertEqual(one.history, (("drop 0", "ok 1"), ("lot", "none"), ("undo", "ok 2"), ("lot", "4:3")))
        self.assertEqual(other.history, (("lot", "4:1 4:3"), ("drop 0", "ok 2")))


class LooksTest(ShellCase):
    def test_lot(self):
        for lot in small_lots(40) + [(), T, E, COPRIME, DOUBLED]:
            self.said(Shell(Board(lot)), ("lot", lot_text(lot)))

    def test_open(self):
        for lot, answer in (
            ((), "day 0"), (T, "none"), (((2, 0), (3, 0)), "day 1"), (DOUBLED, "day 1023"), (LAST_OPEN, "day 511"),
            (NONE_OPEN, "none"), (HALVES, "none"), (((1, 0),), "none"), (((2, 0),), "day 1"),
            (((3, 0), (3, 1)), "day 2"),
        ):
            with Clock(self):
                self.said(Shell(Board(lot)), ("open", answer))

    def test_tally_and_next(self):
        for lot in small_lots(40) + [(), T, ((2, 0), (3, 0)), COPRIME, DOUBLED]:
            shell = Shell(Board(lot))
            for day in (0, 1, -1, 5, -12, 77, EIGHTEEN, -EIGHTEEN, 1023, 10 ** 12):
                found = next_open(lot, day)
                self.said(shell, (f"tally {day}", f"held {slow_tally(lot, day)}"))
                self.said(shell, (f"next {day}", "none" if found is None else f"day {found}"))
        self.said(Shell(Board(((2, 0), (3, 0)))), ("next 2", "day 5"), ("next -1", "day -1"), ("next -2", "day -1"))

    def test_looking_changes_nothing(self):
        board = Board(T)
        shell = Shell(board)
        for line in ("lot", "open", "tally 5", "next 5", "what", "", "drop 99"):
            shell.say(line)
        self.assertEqual([board.lot, board.version], [T, 0])


class LinesTest(ShellCase):
    def test_what_is_no_string(self):
        board = Board(E)
        shell = Shell(board)
        for line in ANY_VALUES + [("lot",), ["lot"], {"lot": 1}, board, b"lot"]:
            if not isinstance(line, str):
                before = copy.deepcopy(line) if line is not board else None
                self.said(shell, (line, "what"))
                self.assertEqual(shell.history[-1], (None, "what"))
                self.assertTrue(line is board or line == before)
        self.assertEqual([board.lot, board.version], [E, 0])

    def test_lines_that_are_just_not_right(self):
        right = [
            "add 2 0", "drop 0", "move 0 1", "split 0 2", "undo", "lot", "open", "tally 3", "next 3", "tally -1",
        ]
        wrong = [
            "", " ", "  ", "\n", "add", "add 2", "add 2 0 0", "add 2 0 ", "add  2 0", "add 2  0", " add 2 0", "drop",
            "drop 0 0", "drop  0", "move 0", "move 0 0 0", "split 0", "split 0 2 2", "undo 0", "undo ", " undo",
            "lot 0", "lot ", "open 0", "tally", "tally 0 0", "next", "next 0 0", "Add 2 0", "LOT", "Lot", "lots",
            "opened", "add two 0", "drop x", "drop 0x1", "drop 1.0", "drop 1_0", "drop 1e0", "drop True",
            "drop None", "drop \"0\"",
            "add 02 0", "add 2 00", "drop 00", "drop -0", "tally -0", "tally 05", "tally -05", "tally +5", "tally --5",
            "tally - 5", "tally -", "tally 5-", "tally 5 ", "tally\t5", "tally\n5", "tally 5\n", "\ntally 5", "lot\n",
            "tally 1000000000000000000", "tally -1000000000000000000", "tally 0999999999999999999", "next 0x",
            "tally " + "9" * 19, "tally " + "9" * 900, "tally -" + "9" * 900, "next 1,000", "what", "none", "history",
            "copy", "at 0", "version", "attempt", "board", "say lot", "lot lot", "lot\nlot", "drop (0)", "~" * 1000,
        ]
        for held in (Board, HeldBoard):
            board = held(HALF + HALF)
            shell = Shell(board)
            for line in wrong:
                self.said(shell, (line, "what"))
                self.assertEqual(shell.history[-1], (line, "what"))
            self.assertEqual([board.lot, board.version], [HALF + HALF, 0])
            for line in right:
                self.assertNotEqual(shell.say(line), "what")

    def test_each_right_line_with_one_sign_more_or_less(self):
        words = "add drop move split undo lot open tally next".split()
        counts = dict(zip(words, (2, 1, 2, 2, 0, 0, 0, 1, 1)))

        def is_right(line):
            word, *numbers = line.split(" ")
            if counts.get(word) != len(numbers):
                return False
            return all(is_number(number) for number in numbers)

        def is_number(word):
            digits = word[1:] if word[:1] == "-" else word
            if not digits or set(digits) - set("0123456789") or len(digits) > 18:
                return False
            return str(int(word)) == word

        lines = ["add 4 9", "drop 0", "move 0 -5", "split 1 2", "undo", "lot", "open", "tally -10", "next 100"]
        for line in lines:
            made = {line}
            for place in range(len(line) + 1):
                made |= {line[:place] + sign + line[place:] for sign in "0 -+1a\n._"}
                made.add(line[:place] + line[place + 1:])
                made.add(line[:place] + line[place:place + 1].upper() + line[place + 1:])
            for other in sorted(made):
                with self.subTest(other):
                    told = Shell(Board(E + E)).say(other)
                    self.assertEqual(told != "what", is_right(other))

    def test_numbers_of_eighteen_digits(self):
        shell = Shell(Board(((1, 0),)))
        self.said(
            shell, ("tally 999999999999999999", "held 1"), ("tally -999999999999999999", "held 1"),
            ("tally 1000000000000000000", "what"), ("tally -1000000000000000000", "what"),
            ("add 999999999999999999 0", "no NoTurn"), ("drop 999999999999999999", "no NoWatch"),
            ("split 0 999999999999999999", "no NoParts"), ("next 999999999999999999", "none"),
            ("move 0 -999999999999999999", "ok 1"), ("move 0 0", "ok 2"), ("tally 0", "held 1"),
        )


class HistoryTest(ShellCase):
    def test_all_that_was_said(self):
        source = random.Random(95)
        shell = Shell(Board(E))
        self.assertEqual(shell.history, ())
        lines = ["lot", "open", "drop 0", "undo", "nothing", "", "tally 1", "add 5 1", None, 7, ["lot"]]
        said = []
        for _ in range(4 * HISTORY):
            line = source.choice(lines)
            said.append((line if isinstance(line, str) else None, shell.say(line)))
            self.assertIs(type(shell.history), tuple)
            self.assertEqual(shell.history, tuple(said[-HISTORY:]))
            self.assertTrue(all(type(pair) is tuple for pair in shell.history))
        self.assertEqual(len(shell.history), HISTORY)

    def test_just_as_many_lines_and_one_more(self):
        shell = Shell(Board(((1, 0),)))
        for day in range(HISTORY):
            shell.say(f"tally {day}")
        whole = tuple((f"tally {day}", "held 1") for day in range(HISTORY + 1))
        before = shell.history
        self.assertEqual(before, whole[:HISTORY])
        shell.say(f"tally {HISTORY}")
        self.assertEqual(shell.history, whole[1:])
        self.assertEqual(before, whole[:HISTORY])

    def test_properties_can_only_be_read(self):
        board = Board(E)
        for shell in (Shell(board), Shell(board=board)):
            self.assertIs(shell.board, board)
            with self.assertRaises(AttributeError):
                shell.board = Board(E)
            with self.assertRaises(AttributeError):
                shell.history = ()
            self.assertIs(shell.board, board)
            self.assertEqual(shell.say(line="lot"), "2:0 4:1 4:3")

    def test_boards_that_are_empty_are_boards(self):
        # A board without watches is neither long nor true.
        board = Board(())
        self.assertIs(Shell(board).board, board)
        self.assertEqual(Shell(board).say("add 1 0"), "ok 1")


class AgainstTheBoardTest(ShellCase):
    def test_lines_do_what_the_methods_do(self):
        source = random.Random(96)
        for made in (Board, HeldBoard):
            for _ in range(40):
                board, other = made(HALF), made(HALF)
                shell = Shell(board)
                for _ in range(50):
                    word = source.choice(["add", "drop", "move", "split", "undo", "split"])
                    many = {"add": 2, "drop": 1, "move": 2, "split": 2, "undo": 0}[word]
                    numbers = [source.choice([0, 1, 2, 3, 4, -1, 8, 60]) for _ in range(many)]
                    try:
                        wanted = f"ok {getattr(other, word)(*numbers)}"
                    except WatchError as error:
                        wanted = f"no {type(error).__name__}"
                    self.said(shell, (" ".join([word] + [str(number) for number in numbers]), wanted))
                    self.assertEqual(board, other)
                    self.assertEqual(board.version, other.version)


if __name__ == "__main__":
    unittest.main()
